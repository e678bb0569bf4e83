/- Digits to a base, the highest first: plain lists and naturals. -/
import Derived.Test.YtfhcmggpojhegaaGreatDoorBaf
import Derived.Test.YtfhcmggpojhegaaGreatDoorBah
import Derived.Test.YtfhcmggpojhegaaGreatDoorBan
import Derived.Lib.SlTrimSet
import Derived.Lib.Bytealg
import Derived.Laws.CopyOwn
import Derived.Deep.RegionLaw

namespace Go.Proofs.YtfhcmggpojhegaaGreatDoor
set_option linter.unusedVariables false
set_option maxHeartbeats 400000
theorem Tc {P:List Nat→Prop} (h0:P []) (h1:∀ ds d,P ds→P (ds++[d])) (ds:List Nat):P ds:=by
 have:∀ l:List Nat,P l.reverse:=fun l=>by
  induction l with
  | nil=>exact h0
  | cons x l ih=>rw [List.reverse_cons];exact h1 _ _ ih
 have h:=this ds.reverse
 rwa [List.reverse_reverse] at h
def fF (b:Nat) (ds:List Nat):Nat:=ds.foldl (fun a d=>a*b+d) 0
theorem Vi (b:Nat) (ds:List Nat) (a:Nat):ds.foldl (fun a d=>a*b+d) a=a*b^ds.length+fF b ds:=by
 induction ds generalizing a with
 | nil=>simp [fF]
 | cons d ds ih =>
  have e:fF b (d::ds)=(0*b+d)*b^ds.length+fF b ds:=ih (0*b+d)
  rw [List.foldl_cons,ih,e,List.length_cons,Nat.pow_succ,Nat.add_mul,Nat.zero_mul,Nat.zero_add,Nat.mul_assoc,Nat.mul_comm b (b^ds.length),Nat.add_assoc]
theorem XA (b:Nat):fF b []=0:=rfl
theorem ou (b:Nat) (xs ys:List Nat):fF b (xs++ys)=fF b xs*b^ys.length+fF b ys:=by
 rw [fF,List.foldl_append,Vi];rfl
theorem sj (b:Nat) (xs:List Nat) (d:Nat):fF b (xs++[d])=fF b xs*b+d:=by
 rw [ou];simp [fF]
theorem wY (b:Nat) (ds:List Nat) (h:∀ d∈ds,d<b):fF b ds<b^ds.length:=by
 revert h
 refine Tc (P:=fun ds=>(∀ d∈ds,d<b)→fF b ds<b^ds.length) (fun _=>by simp [fF]) (fun ds d ih h=>?_) ds
 · have h1:=ih fun x hx=>h x (by simp [hx])
   have h2:=h d (by simp)
   rw [sj,List.length_append,List.length_singleton,Nat.pow_succ]
   have h3:=Nat.mul_le_mul_right b (show fF b ds+1≤b^ds.length from h1)
   rw [Nat.add_mul,Nat.one_mul] at h3
   omega
theorem PG (b k:Nat):fF b (List.replicate k 0)=0:=by
 induction k with
 | zero=>rfl
 | succ k ih=>rw [List.replicate_succ',sj,ih];simp
def fP (b n:Nat):Nat→List Nat
 | 0=>[]
 | k+1=>fP b (n/b) k++[n%b]
theorem iZ (b n k:Nat):(fP b n k).length=k:=by
 induction k generalizing n with
 | zero=>rfl
 | succ k ih=>rw [fP,List.length_append,ih];rfl
theorem Td (b n k:Nat) (hb:0<b):∀ d∈fP b n k,d<b:=by
 induction k generalizing n with
 | zero=>intro d h;simp [fP] at h
 | succ k ih =>
  intro d h
  rw [fP,List.mem_append] at h
  rcases h with h | h
  · exact ih _ d h
  · simp at h;rw [h];exact Nat.mod_lt _ hb
theorem Fj (b n j k:Nat):fP b n (j+k)=fP b (n/b^k) j++fP b (n%b^k) k:=by
 induction k generalizing n with
 | zero=>rw [Nat.pow_zero,Nat.div_one];simp [fP]
 | succ k ih =>
  rw [← Nat.add_assoc,fP,fP,ih,Nat.pow_succ,Nat.mul_comm (b^k) b,Nat.div_div_eq_div_mul,List.append_assoc]
  have h1:n%(b*b^k)/b=n/b%b^k:=by
   rw [Nat.mod_mul]
   rcases Nat.eq_zero_or_pos b with h | h
   · subst h;simp
   · rw [Nat.add_mul_div_left _ _ h,Nat.div_eq_of_lt (Nat.mod_lt _ h),Nat.zero_add]
  have h2:n%(b*b^k)%b=n%b:=Nat.mod_mul_right_mod _ _ _
  rw [h1,h2]
theorem Vj (b:Nat) (ds:List Nat) (h:∀ d∈ds,d<b):fP b (fF b ds) ds.length=ds:=by
 revert h
 refine Tc (P:=fun ds=>(∀ d∈ds,d<b)→fP b (fF b ds) ds.length=ds) (fun _=>rfl) (fun ds d ih h=>?_) ds
 · have h1:=ih fun x hx=>h x (by simp [hx])
   have h2:=h d (by simp)
   have e1:(fF b ds*b+d)%b=d:=by rw [Nat.mul_comm,Nat.mul_add_mod,Nat.mod_eq_of_lt h2]
   have e2:(fF b ds*b+d)/b=fF b ds:=by rw [Nat.mul_comm,Nat.mul_add_div (by omega),Nat.div_eq_of_lt h2,Nat.add_zero]
   rw [List.length_append,List.length_singleton,fP,sj,e1,e2,h1]
end Go.Proofs.YtfhcmggpojhegaaGreatDoor
/- Digits without noughts ahead; how many there are. -/
namespace Go.Proofs.YtfhcmggpojhegaaGreatDoor
set_option linter.unusedVariables false
set_option maxHeartbeats 400000
def gQ:List Nat→List Nat
 | []=>[]
 | d::ds=>if d=0 then gQ ds else d::ds
theorem MS (ds:List Nat) (d:Nat):gQ (ds++[d])=if gQ ds=[] then (if d=0 then [] else [d]) else gQ ds++[d]:=by
 induction ds with
 | nil=>simp [gQ]
 | cons e ds ih =>
  rw [List.cons_append,gQ,gQ]
  by_cases h:e=0
  · rw [if_pos h,if_pos h];exact ih
  · rw [if_neg h,if_neg h];simp
theorem mZ (ds:List Nat):∃ k,ds=List.replicate k 0++gQ ds:=by
 induction ds with
 | nil=>exact ⟨0,rfl⟩
 | cons d ds ih =>
  obtain ⟨k,hk⟩:=ih
  rw [gQ]
  by_cases h:d=0
  · rw [if_pos h,h]
    exact ⟨k+1,by rw [List.replicate_succ,List.cons_append,← hk]⟩
  · rw [if_neg h];exact ⟨0,rfl⟩
theorem DL (b:Nat) (ds:List Nat):fF b (gQ ds)=fF b ds:=by
 obtain ⟨k,hk⟩:=mZ ds
 conv=>rhs;rw [hk,ou,PG,Nat.zero_mul,Nat.zero_add]
def nd (b a:Nat):List Nat:=if h:a=0∨b<2 then [] else nd b (a/b)++[a%b]
termination_by a
decreasing_by exact Nat.div_lt_self (by omega) (by omega)
theorem wZ (b:Nat):nd b 0=[]:=by rw [nd];simp
theorem PI {b a:Nat} (ha:a≠0) (hb:2≤b):nd b a=nd b (a/b)++[a%b]:=by
 rw [nd,dif_neg (by omega)]
theorem Te {b a:Nat} (ha:a≠0) (hb:2≤b):nd b a≠[]:=by rw [PI ha hb];simp
theorem ow (b:Nat) (hb:2≤b) (k a:Nat) (h:a<b^k):gQ (fP b a k)=nd b a:=by
 induction k generalizing a with
 | zero =>
  have:a=0:=by rw [Nat.pow_zero] at h;omega
  subst this
  rw [wZ];rfl
 | succ k ih =>
  have h1:a/b<b^k:=Nat.div_lt_of_lt_mul (by rw [Nat.mul_comm,← Nat.pow_succ];exact h)
  rw [fP,MS,ih _ h1]
  by_cases h0:a=0
  · subst h0
    rw [Nat.zero_div,wZ,if_pos rfl,Nat.zero_mod,if_pos rfl]
  · rw [PI h0 hb]
    by_cases h2:a/b=0
    · rw [h2,wZ,if_pos rfl,if_neg,List.nil_append]
      have:=Nat.div_add_mod a b
      rw [h2,Nat.mul_zero,Nat.zero_add] at this
      rw [this];exact h0
    · rw [if_neg (Te h2 hb)]
theorem ac3 (b:Nat) (hb:2≤b) (ds:List Nat) (h:∀ d∈ds,d<b):nd b (fF b ds)=gQ ds:=by
 have h1:=ow b hb ds.length (fF b ds) (wY b ds h)
 rwa [Vj b ds h,eq_comm] at h1
end Go.Proofs.YtfhcmggpojhegaaGreatDoor
/- Digits as bytes, and back; chunks of digits; the powers that are kept. -/
namespace Go.Proofs.YtfhcmggpojhegaaGreatDoor
set_option linter.unusedVariables false
set_option maxHeartbeats 400000
def jg (d:Nat):Nat:=if d<10 then 48+d else 87+d
def sw (c:Nat):Nat:=if 48≤c∧c≤57 then c-48 else if 97≤c∧c≤122 then c-97+10 else 99
theorem Ju {d:Nat} (h:d<36):sw (jg d)=d:=by
 unfold sw jg
 split
 · rw [if_pos (by omega)];omega
 · rw [if_neg (by omega),if_pos (by omega)];omega
theorem Vk {c:Nat} (h:sw c<36):jg (sw c)=c:=by
 unfold sw at h ⊢
 unfold jg
 by_cases h1:48≤c∧c≤57
 · rw [if_pos h1,if_pos (by omega)];omega
 · rw [if_neg h1] at h ⊢
   by_cases h2:97≤c∧c≤122
   · rw [if_pos h2,if_neg (by omega)];omega
   · rw [if_neg h2] at h;omega
theorem KH {d:Nat} (h:d<36):jg d<128:=by unfold jg;split<;>omega
theorem Vl {d:Nat}:jg d=48↔d=0:=by unfold jg;split<;>omega
theorem ac4 (c:Nat):sw c≤99:=by unfold sw;split<;>(try split)<;>omega
structure Sc (b n p:Nat):Prop where
 b2:2≤b
 b36:b≤36
 n1:1≤n
 pw:p=b^n
 fit:p<4294967296
 most:4294967296≤p*b
theorem Sc.n32 {b n p:Nat} (h:Sc b n p):n≤31:=by
 rcases Nat.lt_or_ge n 32 with h1 | h1
 · omega
 · exfalso
   have h2:2^32≤2^n:=Nat.pow_le_pow_right (by decide) h1
   have h3:2^n≤b^n:=Nat.pow_le_pow_left h.b2 n
   rw [← h.pw] at h3
   have h4:(2:Nat)^32=4294967296:=rfl
   have h5:=h.fit
   omega
theorem Sc.p2 {b n p:Nat} (h:Sc b n p):2≤p:=by
 rw [h.pw]
 have h1:b^1≤b^n:=Nat.pow_le_pow_right (by have:=h.b2;omega) h.n1
 rw [Nat.pow_one] at h1
 have:=h.b2
 omega
structure ScI (b n p:Nat):Prop where
 n1:1≤n
 pw:p=b^n
 fit:p<4294967296
theorem ScI.step {b n p:Nat} (h:ScI b n p) (hlt:p*b<4294967296):ScI b (n+1) (p*b):=⟨by omega,by rw [h.pw,Nat.pow_succ],hlt⟩
theorem ScI.done {b n p:Nat} (h:ScI b n p) (h2:2≤b) (Tf:b≤36) (hge:4294967296≤p*b):Sc b n p:=⟨h2,Tf,h.n1,h.pw,h.fit,hge⟩
theorem ScI.n32 {b n p:Nat} (h:ScI b n p) (h2:2≤b):n≤31:=by
 rcases Nat.lt_or_ge n 32 with h1 | h1
 · omega
 · exfalso
   have h2:2^32≤2^n:=Nat.pow_le_pow_right (by decide) h1
   have h3:2^n≤b^n:=Nat.pow_le_pow_left (by omega) n
   rw [← h.pw] at h3
   have h4:(2:Nat)^32=4294967296:=rfl
   have h5:=h.fit
   omega
def kp (b n i:Nat):Nat:=b^(16*n*2^i)
theorem ac6 (b n p:Nat) (h:p=b^n):kp b n 0=p^16:=by
 unfold kp;rw [Nat.pow_zero,Nat.mul_one,h,← Nat.pow_mul,Nat.mul_comm]
theorem KI (b n i:Nat):kp b n (i+1)=kp b n i*kp b n i:=by
 unfold kp;rw [← Nat.pow_add,Nat.pow_succ,← Nat.mul_assoc,Nat.mul_two]
theorem XB (b n i a:Nat) (hb:2≤b) (h:a<kp b n (i+1)):a/kp b n i<kp b n i∧fP b a (16*n*2^(i+1))=fP b (a/kp b n i) (16*n*2^i)++fP b (a%kp b n i) (16*n*2^i):=by
 refine ⟨Nat.div_lt_of_lt_mul (by rw [← KI];exact h),?_⟩
 rw [show 16*n*2^(i+1)=16*n*2^i+16*n*2^i by rw [Nat.pow_succ,← Nat.mul_assoc,Nat.mul_two],Fj]
 rfl
end Go.Proofs.YtfhcmggpojhegaaGreatDoor
/- Digits: their order, their places, bits of them; powers. -/
namespace Go.Proofs.YtfhcmggpojhegaaGreatDoor
set_option linter.unusedVariables false
set_option maxHeartbeats 400000
def dt (b a:Nat):List Nat:=if a=0 then [0] else nd b a
theorem KJ (b:Nat):dt b 0=[0]:=rfl
theorem PK {b a:Nat} (h:a≠0):dt b a=nd b a:=if_neg h
theorem Tg (b:Nat):∀ (k a i:Nat),i<k→lb (fP b a k) (k-1-i)=a/b^i%b
 | k+1,a,0,_=>by
  rw [fP,Nat.pow_zero,Nat.div_one]
  unfold lb
  rw [List.getElem?_append_right (by rw [iZ];omega),iZ]
  simp
 | k+1,a,i+1,h=>by
  have ih:=Tg b k (a/b) i (by omega)
  rw [fP]
  unfold lb at *
  rw [List.getElem?_append_left (by rw [iZ];omega),show k+1-1-(i+1)=k-1-i by omega,ih,Nat.div_div_eq_div_mul,Nat.pow_succ,Nat.mul_comm]
theorem ac7 (b:Nat) (hb:2≤b) (ds:List Nat) (h:∀ d∈ds,d<b):dt b (fF b ds)=if gQ ds=[] then [0] else gQ ds:=by
 have e:=ac3 b hb ds h
 by_cases h0:fF b ds=0
 · rw [h0,KJ]
   rw [h0,wZ] at e
   rw [if_pos e.symm]
 · rw [PK h0,e,if_neg (by rw [← e];exact Te h0 hb)]
end Go.Proofs.YtfhcmggpojhegaaGreatDoor
/- Texts: digits as bytes of a string. -/
namespace Go.Proofs.YtfhcmggpojhegaaGreatDoor
set_option linter.unusedVariables false
set_option maxHeartbeats 400000
def lM (ds:List Nat):List UInt8:=ds.map fun d=>UInt8.ofNat (jg d)
def gD (ds:List Nat):ByteArray:=⟨(lM ds).toArray⟩
def qR (s:ByteArray):List Nat:=s.data.toList.map fun c=>sw c.toNat
theorem sD (ds:List Nat):(lM ds).length=ds.length:=by simp [lM]
theorem Cg (ds:List Nat):(gD ds).data.toList=lM ds:=rfl
theorem mM (ds:List Nat):(gD ds).size=ds.length:=by
 show (lM ds).toArray.size=ds.length
 rw [List.size_toArray,sD]
theorem Fp {d:Nat} (h:d<36):(UInt8.ofNat (jg d)).toNat=jg d:=by
 have:=KH h
 rw [UInt8.toNat_ofNat',Nat.mod_eq_of_lt (by omega)]
theorem Fq (s:ByteArray):(qR s).length=s.size:=by simp [qR]
theorem Vm (s:ByteArray) (h:∀ d∈qR s,d<36):gD (qR s)=s:=by
 apply ByteArray.ext
 apply Array.toList_inj.1
 rw [Cg]
 unfold lM
 unfold qR at h ⊢
 rw [List.map_map]
 conv=>rhs;rw [← List.map_id s.data.toList]
 apply List.map_congr_left
 intro c hc
 show UInt8.ofNat (jg (sw c.toNat))=c
 rw [Vk (h _ (List.mem_map_of_mem (f:=fun c=>sw c.toNat) hc)),UInt8.ofNat_toNat]
theorem PL (ds:List Nat) (h:∀ d∈ds,d<36):Lib.trimLeftS (lM ds) [48]=lM (gQ ds):=by
 induction ds with
 | nil=>rfl
 | cons d ds ih =>
  have h0:=h d (by simp)
  have e:=Fp h0
  rw [gQ]
  unfold Lib.trimLeftS at ih ⊢
  show List.dropWhile _ (UInt8.ofNat (jg d)::lM ds)=_
  rw [List.dropWhile_cons]
  by_cases hd:d=0
  · subst hd
    rw [if_pos (by decide),if_pos rfl]
    exact ih fun x hx=>h x (by simp [hx])
  · have hne:¬ (UInt8.ofNat (jg d)=48):=by
     intro e2
     rw [e2] at e
     have:=Vl.1 (show jg d=48 by rw [← e];rfl)
     exact hd this
    rw [if_neg (by simp [hne]),if_neg hd]
    rfl
end Go.Proofs.YtfhcmggpojhegaaGreatDoor
/- A base's scale. -/
namespace Go.Proofs.YtfhcmggpojhegaaGreatDoor
open Go.RowKit
set_option linter.unusedVariables false
set_option maxHeartbeats 400000
abbrev SV (b n p:Nat):Value:=.agg #[.int .u32 (b:Nat),.int .i64 (n:Nat),.int .u32 (p:Nat)]
theorem vP (w:World) (b n p:Nat) (h:Sc b n p) :
  Calls Tryz.prog 100 #[SV b n p] w fun e w'=>e = .returned (.int .i64 (16*n:Nat))∧Ext w w':=by
 have hn:=h.n32
 have hE:=(Ext.refl w).alloc (.cells #[.int .u32 (b:Nat),.int .i64 (n:Nat),.int .u32 (p:Nat)] 135)
 go_enter Tryz.func100,Tryz.ntmps100
 go_wp2
 go_ret
 exact ⟨by go_num,hE⟩
def DY (w:World) (B b n p:Nat):Prop:=B<w.heap.size∧w.cell? ⟨B,0,none⟩=some (.int .u32 (b:Nat))∧w.cell? ⟨B,1,none⟩=some (.int .i64 (n:Nat))∧w.cell? ⟨B,2,none⟩=some (.int .u32 (p:Nat))
theorem DY.ext {w w':World} {B b n p:Nat} (h:DY w B b n p) (hE:Ext w w'):DY w' B b n p:=by
 obtain ⟨h0,h1,h2,h3⟩:=h
 have hc:=fun o=>hE.cell (p:=⟨B,o,none⟩) h0
 exact ⟨Nat.lt_of_lt_of_le h0 hE.size,by rw [hc];exact h1,by rw [hc];exact h2,by rw [hc];exact h3⟩
theorem DY.new (w:World) (b n p:Nat):DY (w.alloc (.cells #[.int .u32 (b:Nat),.int .i64 (n:Nat),.int .u32 (p:Nat)] 135)) w.heap.size b n p:=by
 refine ⟨by simp,?_,?_,?_⟩<;>go_simp
def Wr (w:World) (B:Nat):Prop:=∀ j,w.frozen? ⟨B,j,none⟩=false
theorem Wr.setCell {w:World} {B:Nat} (h:Wr w B) (p:Addr) (v:Value):Wr (w.setCell p v) B:=by
 intro j
 have:=h j
 go_simp
def ZBx (w:World) (B:Nat):Prop:=B<w.heap.size∧w.cell? ⟨B,0,none⟩=some (.int .u32 0)∧w.cell? ⟨B,1,none⟩=some (.int .i64 0)∧w.cell? ⟨B,2,none⟩=some (.int .u32 0)
set_option maxRecDepth 100000 in
set_option maxHeartbeats 4000000 in
theorem ym (w:World) (b:Nat) (h2:2≤b) (Tf:b≤36) :
  Calls Tryz.prog 97 #[.int .i64 (b:Nat)] w fun e w'=>(∃ n p,Sc b n p∧e = .returned (SV b n p))∧Ext w w':=by
 have hE:=((Ext.refl w).alloc (.cells #[.int .u32 0,.int .i64 0,.int .u32 0] 135)).alloc (.cells #[.int .u32 (b:Nat),.int .i64 1,.int .u32 (b:Nat)] 135)
 have HI:Hid (ScI b 1 b):=⟨Nat.le_refl _,(Nat.pow_one _).symm,by omega⟩
 have hb1:(b:Int)%4294967296=b:=by omega
 have hb2:(b:Int)%18446744073709551616=b:=by omega
 go_enter Tryz.func97,Tryz.ntmps97
 go_wp2
 have hZ:ZBx ((w.alloc (.cells #[.int .u32 0,.int .i64 0,.int .u32 0] 135)).alloc (.cells #[.int .u32 (b:Nat),.int .i64 1,.int .u32 (b:Nat)] 135)) w.heap.size:=by refine ⟨by simp;omega,?_,?_,?_⟩<;>go_simp
 have hS:DY ((w.alloc (.cells #[.int .u32 0,.int .i64 0,.int .u32 0] 135)).alloc (.cells #[.int .u32 (b:Nat),.int .i64 1,.int .u32 (b:Nat)] 135)) (w.heap.size+1) b 1 b:=by refine ⟨by simp,?_,?_,?_⟩<;>go_simp
 have hF:Wr ((w.alloc (.cells #[.int .u32 0,.int .i64 0,.int .u32 0] 135)).alloc (.cells #[.int .u32 (b:Nat),.int .i64 1,.int .u32 (b:Nat)] 135)) w.heap.size:=by intro j;go_simp
 have hG:Wr ((w.alloc (.cells #[.int .u32 0,.int .i64 0,.int .u32 0] 135)).alloc (.cells #[.int .u32 (b:Nat),.int .i64 1,.int .u32 (b:Nat)] 135)) (w.heap.size+1):=by intro j;go_simp
 go_loopw [10] (fun t wr=>∃ n p:Nat,Wr wr w.heap.size∧Wr wr (w.heap.size+1)∧Hid (ScI b n p)∧DY wr (w.heap.size+1) b n p∧ZBx wr w.heap.size∧Ext w wr) (fun _ wr=>match wr.cell? ⟨w.heap.size+1,1,none⟩ with | some v=>32-(intOf v).toNat | none=>0)
 case atStart=>exact ⟨1,b,hF,hG,HI,hS,hZ,hE⟩
 case round =>
  clear HI hS hZ hE hF hG
  obtain ⟨n,p,hF,hG,HO,hS,hZ,hE⟩:=hrel
  have hF0:=hF 0
  have hF1:=hF 1
  have hF2:=hF 2
  have hG1:=hG 1
  have hG2:=hG 2
  have hpf:=HO.out.fit
  have hn32:=HO.out.n32 h2
  obtain ⟨s0,s1,s2,s3⟩:=id hS
  obtain ⟨z0,z1,z2,z3⟩:=id hZ
  obtain ⟨q,hq⟩:∃ q,p*b=q:=⟨_,rfl⟩
  have Px:q<18446744073709551616:=by
   rw [← hq]
   have h3:p*b≤p*36:=Nat.mul_le_mul_left p Tf
   omega
  have o1:(p:Int)*(b:Int)=(q:Int):=by rw [← hq];exact (Int.natCast_mul p b).symm
  have o2:IntKind.u64.wrap (q:Int)=(q:Int):=by rw [IntKind.wrap_u64];omega
  have o3:(q:Int)%18446744073709551616=(q:Int):=by omega
  have o4:IntKind.u64.wrap (p:Int)=(p:Int):=by rw [IntKind.wrap_u64];omega
  have o5:(p:Int)%18446744073709551616=(p:Int):=by omega
  by_cases hlt:q<4294967296
  · have HST:=Lib.hid (HO.out.step (by rw [hq];exact hlt))
    have o6:(q:Int)%4294967296=q:=by omega
    rw [hq] at HST
    have hd:((q:Int)<4294967296):=by omega
    clear HO hS hZ
    go_wp2
    go_roundw
    case rel =>
     refine ⟨n+1,q,(hF.setCell _ _).setCell _ _,(hG.setCell _ _).setCell _ _,HST,⟨by simp;omega,?_,?_,?_⟩,⟨by simp;omega,?_,?_,?_⟩,(hE.setCell (by simp) _).setCell (by simp) _⟩<;>go_simp
    case measure =>
     rw [s2]
     have e:((wr.setCell { block:=w.heap.size+1,off:=1 } (Value.int IntKind.i64 ((n:Int)+1))).setCell { block:=w.heap.size+1,off:=2 } (Value.int IntKind.u32 (q:Int))).cell? { block:=w.heap.size+1,off:=1 }=some (.int .i64 ((n:Int)+1)):=by go_simp
     rw [e]
     show 32-((n:Int)+1).toNat<32-(n:Int).toNat
     omega
  · have HD:=Lib.hid (HO.out.done h2 Tf (by rw [hq];omega))
    have hd:¬ ((q:Int)<4294967296):=by omega
    clear HO hS hZ
    go_wp2
    (try simp only [Exit.inBlock,Exit.then])
    refine bodyPost_ret (v:=SV b n p) (show (results _ _).run _ _=_ from ?_) rfl ⟨⟨n,p,HD.out,rfl⟩,((hE.setCell (by simp) _).setCell (by simp) _).setCell (by simp) _⟩
    simp only [results]
    go_simp
end Go.Proofs.YtfhcmggpojhegaaGreatDoor
/- Rows of bytes; a chunk of digits, and a row of digits chunk by chunk: plain mathematics and memory. -/
namespace Go.Proofs.YtfhcmggpojhegaaGreatDoor
open Go.RowKit
set_option linter.unusedVariables false
set_option maxHeartbeats 400000
def Bv (o:List Nat):List Value:=o.map fun x=>Value.int .u8 (x:Nat)
theorem Cw (o:List Nat):(Bv o).length=o.length:=by simp [Bv]
theorem YR (o:List Nat) {j:Nat} (h:j<o.length):(Bv o)[j]?=some (.int .u8 (lb o j:Nat)):=by unfold Bv lb;simp [h]
theorem ahr (o:List Nat) (i x:Nat):Bv (o.set i x)=(Bv o).set i (.int .u8 (x:Nat)):=by simp [Bv,List.map_set]
theorem VK (o cs:List Nat) (off:Nat):Bv (splice o off cs)=splice (Bv o) off (Bv cs):=by simp [Bv,splice]
def By (T:TypeId) (w:World) (g:Nat) (o:List Nat):Prop:=w.heap[g]?=some (.cells (Bv o).toArray T (0,0))
theorem By.lt {T:TypeId} {w:World} {g:Nat} {o:List Nat} (h:By T w g o):g<w.heap.size:=(Array.getElem?_eq_some_iff.1 h).1
theorem By.cell {T:TypeId} {w:World} {g:Nat} {o:List Nat} (h:By T w g o) {j:Nat} (hj:j<o.length):w.cell? ⟨g,j,none⟩=some (.int .u8 (lb o j:Nat)):=by
 rw [cell_of_row w g j _ _ _ h,List.getElem?_toArray];exact YR o hj
theorem By.frozen {T:TypeId} {w:World} {g:Nat} {o:List Nat} (h:By T w g o) (j:Nat):w.frozen? ⟨g,j,none⟩=false:=frozen_of_row w g j _ _ h
theorem By.mQ {T:TypeId} {w:World} {g:Nat} {o:List Nat} (h:By T w g o) (j x:Nat):By T (w.setCell ⟨g,j,none⟩ (.int .u8 (x:Nat))) g (o.set j x):=by
 have:=heap_setCell_same w g j _ _ (.int .u8 (x:Nat)) h
 unfold By
 rw [this,ahr,List.setIfInBounds_toArray]
theorem By.other {T:TypeId} {w:World} {g q:Nat} {o:List Nat} (h:By T w g o) (hne:g≠q) (j:Nat) (v:Value):By T (w.setCell ⟨q,j,none⟩ v) g o:=by
 unfold By
 rw [heap_setCell_other w ⟨q,j,none⟩ g v hne];exact h
theorem By.ext {T:TypeId} {w w':World} {g:Nat} {o:List Nat} (h:By T w g o) (hE:Ext w w'):By T w' g o:=by
 unfold By
 rw [hE.block g h.lt];exact h
theorem By.but {T:TypeId} {w w':World} {g q:Nat} {o:List Nat} (h:By T w g o) (hE:But q w w') (hne:g≠q):By T w' g o:=by
 unfold By
 rw [hE.block g h.lt (fun e=>hne (by injection e))];exact h
theorem U.aml {T:TypeId} {w:World} {v:Value} {xs:List Nat} {g:Nat} {o:List Nat} (h:U w v xs) (hB:By T w g o):∃ (A:Option Addr) (c:Nat),v = .slice A xs.length c∧(xs.length≤c∧xs.length≤9223372036854775807)∧(∀ x∈xs,x<4294967296) ∧
  (0<xs.length→∃ ad,A=some ad∧ad.block<w.heap.size∧ad.block≠g∧∀ j,j<xs.length→w.cell? (ad.add j)=some (.int .u32 (lb xs j:Nat))):=by
 obtain ⟨A,c,rfl,hc,hx,hr⟩:=h
 refine ⟨A,c,rfl,hc,hx,fun h0=>?_⟩
 obtain ⟨ad,hA,hb,hcell⟩:=hr h0
 refine ⟨ad,hA,hb,fun e=>?_,hcell⟩
 have h1:=hcell 0 h0
 rw [gN] at h1
 have hB2:w.heap[ad.block]?=some (.cells (Bv o).toArray T (0,0)):=by rw [e];exact hB
 unfold World.cell? at h1
 rw [hB2] at h1
 simp only at h1
 split at h1
 · cases h1
 · rw [List.getElem?_toArray] at h1
   unfold Bv at h1
   rw [List.getElem?_map] at h1
   cases h2:o[ad.off]? with
   | none=>rw [h2] at h1;cases h1
   | some x=>rw [h2] at h1;simp at h1
theorem U.DZ {T:TypeId} {w w':World} {v:Value} {xs:List Nat} {g:Nat} {o:List Nat} (h:U w v xs) (hB:By T w g o) (hE:But g w w'):U w' v xs:=by
 obtain ⟨A,c,rfl,hc,hx,hr⟩:=h.aml hB
 refine ⟨A,c,rfl,hc,hx,fun h0=>?_⟩
 obtain ⟨ad,hA,hb,hne,hcell⟩:=hr h0
 exact ⟨ad,hA,Nat.lt_of_lt_of_le hb hE.size,fun j hj=>(hE.cell (by rw [aJ];exact hb) (by rw [aJ];exact hne)).trans (hcell j hj)⟩
structure CkI (b n r0 k:Nat) (c:List Nat) (r:Nat):Prop where
 len:c.length=32
 at_:∀ j,k≤j→j<n→lb c j=jg (lb (fP b r0 n) j)
 rest:r=r0/b^(n-k)
theorem CkI.start (b n r0:Nat) (c:List Nat) (h:c.length=32):CkI b n r0 n c r0:=⟨h,fun j h1 h2=>by omega,by rw [Nat.sub_self,Nat.pow_zero,Nat.div_one]⟩
theorem CkI.step {b n r0 k:Nat} {c:List Nat} {r:Nat} (h:CkI b n r0 (k+1) c r) (hk:k<n) (hn:n≤32):CkI b n r0 k (c.set k (jg (r%b))) (r/b):=by
 refine ⟨by simp [h.len],fun j h1 h2=>?_,?_⟩
 · rw [iT _ _ _ _ (by rw [h.len];omega)]
   by_cases e:k=j
   · subst e
     rw [if_pos rfl]
     have:=Tg b n r0 (n-(k+1)) (by omega)
     rw [show n-1-(n-(k+1))=k by omega,← h.rest] at this
     rw [this]
   · rw [if_neg e];exact h.at_ j (by omega) h2
 · rw [h.rest,Nat.div_div_eq_div_mul,← Nat.pow_succ];congr 2;omega
theorem CkI.done {b n r0:Nat} {c:List Nat} {r:Nat} (h:CkI b n r0 0 c r) (hn:n≤32):c.take n=(fP b r0 n).map jg:=by
 have e1:(c.take n).length=n:=by rw [List.length_take,h.len];omega
 refine kZ (by rw [e1,List.length_map,iZ]) fun j hj=>?_
 rw [e1] at hj
 rw [iB hj,h.at_ j (Nat.zero_le _) hj]
 have hj2:j<(fP b r0 n).length:=by rw [iZ];exact hj
 unfold lb
 simp [hj2]
theorem ND (b a n k:Nat) (h:k≤n):fP b (a%b^n) k=fP b a k:=by
 obtain ⟨d,rfl⟩:∃ d,n=k+d:=⟨n-k,by omega⟩
 clear h
 induction k generalizing a with
 | zero=>rfl
 | succ k ih =>
  rw [fP,fP]
  have e:k+1+d=(k+d)+1:=by omega
  rw [e,Nat.pow_succ,Nat.mul_comm (b^(k+d)) b,Nat.mod_mul_right_div_self,ih,Nat.mod_mul_right_mod]
structure WrI (b len a0:Nat) (pre mid post:List Nat) (m:Nat) (o:List Nat) (a:Nat):Prop where
 le:m≤len
 row:o=pre++(mid.take m++(((fP b a0 len).map jg).drop m++post))
 rest:a=a0/b^(len-m)
theorem WrI.step {b len a0 n:Nat} {pre mid post:List Nat} {m:Nat} {o:List Nat} {a:Nat} (h:WrI b len a0 pre mid post m o a) (hb:2≤b) (hmid:mid.length=len) (ha:a0<b^len) (k:Nat) (hk:min n m=k) :
  WrI b len a0 pre mid post (m-k) (splice o (pre.length+(m-k)) ((fP b (a%b^n) k).map jg)) (a/b^n):=by
 have hle:=h.le
 have hkm:k≤m:=by omega
 refine ⟨by omega,?_,?_⟩
 · rw [ND b a n k (by omega)]
   have e1:(fP b a0 len).drop (m-k)=fP b a k++(fP b a0 len).drop m:=by
    have h1:fP b a0 len=fP b a m++fP b (a0%b^(len-m)) (len-m):=by
     have:=Fj b a0 m (len-m)
     rw [show m+(len-m)=len by omega] at this
     rw [this,h.rest]
    have h2:fP b a m=fP b (a/b^k) (m-k)++fP b a k:=by
     have:=Fj b a (m-k) k
     rw [show m-k+k=m by omega,ND b a k k (Nat.le_refl _)] at this
     exact this
    rw [h1,List.drop_append_of_le_length (by rw [iZ];omega),List.drop_left' (by rw [iZ]),h2,List.drop_left' (by rw [iZ])]
   rw [h.row,splice,← List.map_drop,← List.map_drop,e1,List.map_append]
   have l1:((fP b a k).map jg).length=k:=by rw [List.length_map,iZ]
   have l2:(mid.take m).length=m:=by rw [List.length_take];omega
   rw [l1]
   have t1:(pre++(mid.take m++(((fP b a0 len).drop m).map jg++post))).take (pre.length+(m-k))=pre++mid.take (m-k):=by
    rw [List.take_length_add_append,List.take_append_of_le_length (by rw [l2];omega),List.take_take,Nat.min_eq_left (by omega)]
   have t2:(pre++(mid.take m++(((fP b a0 len).drop m).map jg++post))).drop (pre.length+(m-k)+k)=((fP b a0 len).drop m).map jg++post:=by
    rw [show pre.length+(m-k)+k=pre.length+m by omega,List.drop_length_add_append,List.drop_left' l2]
   rw [t1,t2]
   simp only [List.append_assoc]
 · rw [h.rest,Nat.div_div_eq_div_mul,← Nat.pow_add]
   rcases Nat.le_total n m with h1 | h1
   · congr 2;omega
   · have hz:a0/b^(len-m+n)=0:=Nat.div_eq_of_lt (Nat.lt_of_lt_of_le ha (Nat.pow_le_pow_right (by omega) (by omega)))
     rw [hz,show len-(m-k)=len by omega,Nat.div_eq_of_lt ha]
end Go.Proofs.YtfhcmggpojhegaaGreatDoor
/- A row of digits is written. -/
namespace Go.Proofs.YtfhcmggpojhegaaGreatDoor
open Go.RowKit
set_option linter.unusedVariables false
set_option maxHeartbeats 400000
theorem But.ahs {g:Nat} {a b:World} (h:But g a b) {B:Nat} (hB:a.heap.size≤B) (j:Nat) (v:Value):But g a (b.setCell ⟨B,j,none⟩ v) :=
 ⟨h.os,h.tape,h.output,by have:=h.size;simp [World.setCell];exact this,fun k hk hne=>(heap_setCell_other b ⟨B,j,none⟩ k v (by show k≠B;omega)).trans (h.block k hk hne)⟩
theorem DY.other {w:World} {B b n p:Nat} (h:DY w B b n p) {q:Nat} (hne:B≠q) (j:Nat) (v:Value):DY (w.setCell ⟨q,j,none⟩ v) B b n p:=by
 obtain ⟨h0,h1,h2,h3⟩:=h
 have hc:∀ i,(w.setCell ⟨q,j,none⟩ v).cell? ⟨B,i,none⟩=w.cell? ⟨B,i,none⟩:=fun i=>World.cell?_of_block (heap_setCell_other w ⟨q,j,none⟩ B v hne)
 exact ⟨by simpa [World.setCell] using h0,by rw [hc];exact h1,by rw [hc];exact h2,by rw [hc];exact h3⟩
theorem DY.but {w w':World} {B b n p g:Nat} (h:DY w B b n p) (hE:But g w w') (hne:B≠g):DY w' B b n p:=by
 obtain ⟨h0,h1,h2,h3⟩:=h
 have hc:∀ i,w'.cell? ⟨B,i,none⟩=w.cell? ⟨B,i,none⟩:=fun i=>hE.cell h0 hne
 exact ⟨Nat.lt_of_lt_of_le h0 hE.size,by rw [hc];exact h1,by rw [hc];exact h2,by rw [hc];exact h3⟩
theorem U.amm {T:TypeId} {w:World} {v:Value} {xs:List Nat} {g:Nat} {o:List Nat} (h:U w v xs) (hB:By T w g o) (j:Nat) (x:Value):U (w.setCell ⟨g,j,none⟩ x) v xs:=h.DZ hB ((But.refl g w).setCell j x)
set_option maxRecDepth 100000 in
theorem VL (d:Nat) (h:d<36) (h2:d<(⟨#[48,49,50,51,52,53,54,55,56,57,97,98,99,100,101,102,103,104,105,106,107,108,109,110,111,112,113,114,115,116,117,118,119,120,121,122]⟩:ByteArray).size):((⟨#[48,49,50,51,52,53,54,55,56,57,97,98,99,100,101,102,103,104,105,106,107,108,109,110,111,112,113,114,115,116,117,118,119,120,121,122]⟩:ByteArray)[d]'h2).toNat=jg d:=by
 have:∀ k:Fin 36,∀ h3:k.1<(⟨#[48,49,50,51,52,53,54,55,56,57,97,98,99,100,101,102,103,104,105,106,107,108,109,110,111,112,113,114,115,116,117,118,119,120,121,122]⟩:ByteArray).size,((⟨#[48,49,50,51,52,53,54,55,56,57,97,98,99,100,101,102,103,104,105,106,107,108,109,110,111,112,113,114,115,116,117,118,119,120,121,122]⟩:ByteArray)[k.1]'h3).toNat=jg k.1:=by decide
 exact this ⟨d,h⟩ h2
theorem aht:(Tryz.prog.info? 5).map (·.size)=some 1:=by kernel_rfl
theorem Qu {ops:Array Oper} {oo:Oper} {a:Act} {w:World} {K:Act→World→Prop} {Q:Exit→Act→World→Prop} {E:Prop} (hgd:oo.guard=none) (d s:Operand)
  (ho:oo.op = .call { callee:=.builtin .copy,args:=#[d,s],argTypes:=#[143,143] }) (g off dLen dCap sg sCap:Nat)
  (hd:a.eval d = .slice (some ⟨g,off,none⟩) dLen dCap) (hs:a.eval s = .slice (some ⟨sg,0,none⟩) dLen sCap) (o c:List Nat) (T2:TypeId) (hB:By 5 w g o) (hC:By T2 w sg c)
  (hl:dLen≤c.length) (hfit:off+dLen≤o.length) (h:∀ w',Hid (By 5 w' g (splice o off (c.take dLen)))→But g w w'→K (a.put oo.dst (goInt dLen)) w') :
  if Region.wanted oo (yielded ops a.tmps)=true then Oper.wp Tryz.prog oo a w K Q else E:=by
 have hw:Region.wanted oo (yielded ops a.tmps)=true:=by simp [Region.wanted,hgd]
 rw [if_pos hw]
 have hcl:(c.take dLen).length=dLen:=by rw [List.length_take];omega
 have hrun:=run_copy_row (P:=Tryz.prog) w 143 143 oo.type 5 g off dLen dCap ⟨sg,0,none⟩ dLen sCap (Bv o).toArray 5 (Bv (c.take dLen)) Tryz.underlying143 aht hB (by rw [Cw,hcl];exact (Nat.min_self _).symm)
  (fun j v hj=>by
   have hjl:j<dLen:=by
    have:=(List.getElem?_eq_some_iff.1 hj).1
    rwa [Cw,hcl] at this
   rw [YR _ (by rw [hcl];exact hjl),iB hjl] at hj
   rw [lQ,hC.cell (by omega),← hj]) (by rw [Cw,hcl];simpa [Cw] using hfit) (by intro u hu;obtain ⟨z,_,rfl⟩:=List.mem_map.1 hu;rfl)
 unfold Oper.wp
 simp [execOp,ho,resolve,invoke,builtin,hd,hs,hrun,Result.andThen]
 rw [Cw,hcl]
 refine h _ ?_ ?_
 · show By _ _ _ _
   unfold By
   rw [setRow_heap w g _ _ _ _ hB,VK]
   simp [splice,Cw,hcl]
 · exact ⟨rfl,rfl,rfl,by simp,fun k hk hne=>setRow_other w g k _ (fun e=>hne (by rw [e]))⟩
set_option maxRecDepth 100000 in
set_option maxHeartbeats 4000000 in
theorem NE (w:World) (b n p:Nat) (hS:Sc b n p) (g off len cap:Nat) (pre mid post:List Nat) (hB:By 5 w g (pre++(mid++post))) (hpre:pre.length=off) (hmid:mid.length=len) (hcap:len≤cap) (hcm:cap≤1000000000)
  (v:Value) (a0:Nat) (hu:Un w v a0) (hl:(limbs a0).length≤1000000) (ha:a0<b^len) :
  Calls Tryz.prog 104 #[SV b n p,.slice (some ⟨g,off,none⟩) len cap,v] w fun e w'=>e = .returned (.tuple #[])∧By 5 w' g (pre++((fP b a0 len).map jg++post))∧But g w w':=by
 have ahu:=hS.n32
 have hp2:=hS.p2
 have hn1:=hS.n1
 have hgl:=hB.lt
 have HW:Hid (WrI b len a0 pre mid post len (pre++(mid++post)) a0):=⟨Nat.le_refl _,by rw [List.take_of_length_le (by omega),List.drop_eq_nil_of_le (by rw [List.length_map,iZ];omega),List.nil_append],by rw [Nat.sub_self,Nat.pow_zero,Nat.div_one]⟩
 have D5:DY ((w.alloc (.cells #[.int .u32 (b:Nat),.int .i64 (n:Nat),.int .u32 (p:Nat)] 135)).alloc (.cells #[.int .u8 0,.int .u8 0,.int .u8 0,.int .u8 0,.int .u8 0,.int .u8 0,.int .u8 0,.int .u8 0,.int .u8 0,.int .u8 0,.int .u8 0,.int .u8 0,.int .u8 0,.int .u8 0,.int .u8 0,.int .u8 0,.int .u8 0,.int .u8 0,.int .u8 0,.int .u8 0,.int .u8 0,.int .u8 0,.int .u8 0,.int .u8 0,.int .u8 0,.int .u8 0,.int .u8 0,.int .u8 0,.int .u8 0,.int .u8 0,.int .u8 0,.int .u8 0] 189)) w.heap.size b n p:=(DY.new w b n p).ext ((Ext.refl _).alloc _)
 have hC:By 189 ((w.alloc (.cells #[.int .u32 (b:Nat),.int .i64 (n:Nat),.int .u32 (p:Nat)] 135)).alloc (.cells #[.int .u8 0,.int .u8 0,.int .u8 0,.int .u8 0,.int .u8 0,.int .u8 0,.int .u8 0,.int .u8 0,.int .u8 0,.int .u8 0,.int .u8 0,.int .u8 0,.int .u8 0,.int .u8 0,.int .u8 0,.int .u8 0,.int .u8 0,.int .u8 0,.int .u8 0,.int .u8 0,.int .u8 0,.int .u8 0,.int .u8 0,.int .u8 0,.int .u8 0,.int .u8 0,.int .u8 0,.int .u8 0,.int .u8 0,.int .u8 0,.int .u8 0,.int .u8 0] 189)) (w.heap.size+1) (List.replicate 32 0):=by unfold By;exact heap_alloc2_new w _ _
 have hE0:Ext w ((w.alloc (.cells #[.int .u32 (b:Nat),.int .i64 (n:Nat),.int .u32 (p:Nat)] 135)).alloc (.cells #[.int .u8 0,.int .u8 0,.int .u8 0,.int .u8 0,.int .u8 0,.int .u8 0,.int .u8 0,.int .u8 0,.int .u8 0,.int .u8 0,.int .u8 0,.int .u8 0,.int .u8 0,.int .u8 0,.int .u8 0,.int .u8 0,.int .u8 0,.int .u8 0,.int .u8 0,.int .u8 0,.int .u8 0,.int .u8 0,.int .u8 0,.int .u8 0,.int .u8 0,.int .u8 0,.int .u8 0,.int .u8 0,.int .u8 0,.int .u8 0,.int .u8 0,.int .u8 0] 189)):=((Ext.refl w).alloc _).alloc _
 have hB0:=hB.ext hE0
 have hu0:Un _ v a0:=hu.below hE0
 have AL:=(But.refl g w).ext hE0
 go_enter Tryz.func104,Tryz.ntmps104
 go_wp2
 generalize ((w.alloc (.cells #[.int .u32 (b:Nat),.int .i64 (n:Nat),.int .u32 (p:Nat)] 135)).alloc (.cells #[.int .u8 0,.int .u8 0,.int .u8 0,.int .u8 0,.int .u8 0,.int .u8 0,.int .u8 0,.int .u8 0,.int .u8 0,.int .u8 0,.int .u8 0,.int .u8 0,.int .u8 0,.int .u8 0,.int .u8 0,.int .u8 0,.int .u8 0,.int .u8 0,.int .u8 0,.int .u8 0,.int .u8 0,.int .u8 0,.int .u8 0,.int .u8 0,.int .u8 0,.int .u8 0,.int .u8 0,.int .u8 0,.int .u8 0,.int .u8 0,.int .u8 0,.int .u8 0] 189))=w1 at *
 go_loopw [1,2] (fun t t2 wr=>∃ (m a:Nat) (o c:List Nat),t = .slice (some ⟨g,off,none⟩) m cap∧Hid (WrI b len a0 pre mid post m o a)∧Un wr t2 a∧a≤a0∧By 5 wr g o∧DY wr w.heap.size b n p∧c.length=32∧By 189 wr (w.heap.size+1) c∧But g w wr) (fun t _ _=>match t with | .slice _ m _=>m | _=>0)
 case atStart=>exact ⟨len,a0,_,_,rfl,HW,hu0,Nat.le_refl _,hB0,D5,by simp,hC,AL⟩
 case round =>
  clear HW hu0 hB0 D5 hC AL hE0 hu
  obtain ⟨m,a,o,c,rfl,HO,hu,hle,hB1,D5,hcl,hC,AL⟩:=hrel
  by_cases hm:m=0
  · subst hm
    go_wp2
    refine bodyPost_end (results_none rfl _ _ _) rfl ⟨rfl,?_,AL⟩
    have hrow:=HO.out.row
    rw [List.take_zero,List.nil_append,List.drop_zero] at hrow
    rw [← hrow]
    exact hB1
  · have hm1:((m:Int)>0):=by omega
    obtain ⟨s0,s1,s2,s3⟩:=id D5
    obtain ⟨q,hq⟩:∃ q,a/p=q:=⟨_,rfl⟩
    obtain ⟨r,hr⟩:∃ r,a%p=r:=⟨_,rfl⟩
    obtain ⟨k,hk⟩:∃ k,min n m=k:=⟨_,rfl⟩
    have YS:(if (m:Int)<(n:Int) then (m:Int) else (n:Int))=(k:Int):=by split<;>omega
    have YT:(if m<n then (m:Int) else (n:Int))=(k:Int):=by split<;>omega
    have hla:(limbs a).length≤1000000:=Nat.le_trans (eZ hle) hl
    go_wp2_with (go_at_call 125;refine (DJ _ _ a p hu hla hS.fit (by omega) q r hq hr).mono ?_;rintro e w3 ⟨⟨u,rfl,hu3⟩,bJ⟩)
    replace hB1:=hB1.ext bJ
    replace hC:=hC.ext bJ
    replace D5:=D5.ext bJ
    replace AL:=AL.ext bJ
    have HC0:=Lib.hid (CkI.start b k r c hcl)
    have hk0:k≤31∧1≤k∧k≤m:=by omega
    have hrp:r<4294967296:=by rw [← hr];exact Nat.lt_trans (Nat.mod_lt _ (by omega)) hS.fit
    clear hu bJ s0 s1 s2 s3 YS YT hcl
    go_loopw [9,8] (fun t s w4=>∃ (j rs:Nat) (z:Int) (c:List Nat),j≤k∧t = .int .i64 z∧z=(j:Int)-1∧s = .int .u32 (rs:Nat)∧rs≤r∧Hid (CkI b k r j c rs)∧Un w4 u q∧By 5 w4 g o∧By 189 w4 (w.heap.size+1) c∧DY w4 w.heap.size b n p∧But g w w4) (fun t _ _=>(intOf t+1).toNat)
    case atStart=>exact ⟨k,r,_,c,Nat.le_refl _,rfl,rfl,rfl,Nat.le_refl _,HC0,hu3,hB1,hC,D5,AL⟩
    case round =>
     clear HC0 hu3 hB1 hC D5 AL
     obtain ⟨j,rs,z,c,hj,rfl,hz,rfl,hrs,HC,hu3,hB1,hC,D5,AL⟩:=hrel
     obtain ⟨s0,s1,s2,s3⟩:=id D5
     cases j with
     | zero =>
      obtain rfl:z = -1:=by omega
      clear hz
      obtain ⟨x,hx0⟩:∃ x,m=x+k:=⟨m-k,by omega⟩
      have hx:(m:Int)-(k:Int)=(x:Int):=by omega
      have hx1:(0:Int)≤(x:Int):=by omega
      have hx2:(x:Int)≤(m:Int):=by omega
      have hx3:m-x=k:=by omega
      have hml:=HO.out.le
      have hcl:=HC.out.len
      have hol:o.length=off+len+post.length:=by
       rw [HO.out.row]
       simp only [List.length_append,List.length_take,List.length_drop,List.length_map,iZ]
       omega
      have hkc:(k:Int)≤32:=by omega
      have hxw:IntKind.i64.wrap (x:Int)=(x:Int):=by rw [IntKind.wrap_i64];omega
      have hcx:¬ (cap=x):=by omega
      have HW2:Hid (WrI b len a0 pre mid post x (splice o (off+x) (c.take k)) q):=by
       have h9:=HO.out.step hS.b2 hmid ha k hk
       rw [← hS.pw,hr,hq,hpre,show m-k=x by omega,← HC.out.done (by omega)] at h9
       exact h9
      have hx4:(x:Int)≤(cap:Int):=by omega
      have hxm:Hid (x<m):=(by omega:x<m)
      have hqa:q≤a0:=Nat.le_trans (by rw [← hq];exact Nat.div_le_self _ _) hle
      have hxk:=Lib.hid hx0
      clear hx0
      go_wp2
      go_region_law (refine Qu rfl (.tmp 48) (.tmp 50) rfl g (off+x) k (cap-x) (w.heap.size+1) 32 (by go_simp) (by go_simp) o c 189 hB1 hC (by omega) (by omega) ?_;intro w5 HB5 yt)
      replace yt:=But.trans (But.drew (But.refl g _)) yt
      have ase:=hu3.DZ hB1 yt
      have ahv:=D5.but yt (by omega)
      have hC5:=hC.but yt (by omega)
      have FY:=But.trans AL yt
      clear hB1 hC D5 hu3 AL yt s0 s1 s2 s3
      go_wp2
      go_roundw
      case rel=>exact ⟨x,q,_,c,rfl,HW2,ase,hqa,HB5.out,ahv,hcl,hC5,FY⟩
      case measure=>exact hxm.out
     | succ i =>
      obtain rfl:z=(i:Int):=by omega
      clear hz
      have YU:=hS.b36
      have hb2:=hS.b2
      obtain ⟨d,hd⟩:∃ d,rs%b=d:=⟨_,rfl⟩
      obtain ⟨y,hy⟩:∃ y,rs/b=y:=⟨_,rfl⟩
      have hdb:d<36:=by rw [← hd];exact Nat.lt_of_lt_of_le (Nat.mod_lt _ (by omega)) YU
      have o7:(rs:Int).tdiv (b:Int)=(y:Int):=by rw [Int.tdiv_eq_ediv_of_nonneg (Int.natCast_nonneg _),← hy,Int.natCast_ediv]
      have o8:(rs:Int).tmod (b:Int)=(d:Int):=by rw [Int.tmod_eq_emod_of_nonneg (Int.natCast_nonneg _),← hd,Int.natCast_emod]
      have o7':(rs:Int)/(b:Int)=(y:Int):=by rw [← hy,Int.natCast_ediv]
      have o8':(rs:Int)%(b:Int)=(d:Int):=by rw [← hd,Int.natCast_emod]
      have hyr:y≤rs:=by rw [← hy];exact Nat.div_le_self _ _
      have hbz:¬ ((b:Int)=0):=by omega
      have hfr:=hC.frozen i
      have hcl:=HC.out.len
      have hcell:=hC.cell (j:=i) (by omega)
      have HST:=Lib.hid (HC.out.step (by omega) (by omega))
      rw [hd,hy] at HST
      have hC2:=hC.mQ i (jg d)
      go_wp2
      rw [VL d hdb]
      exact ⟨⟨i,y,_,c.set i (jg d),by omega,rfl,rfl,rfl,by omega,HST,hu3.amm hC _ _,hB1.other (by omega) _ _,hC2,D5.other (by omega) _ _,AL.ahs (by omega) _ _⟩,by simp [intOf]⟩
end Go.Proofs.YtfhcmggpojhegaaGreatDoor
