/- Sums of products, carried, are the product; the last bit taken away. -/
import Derived.Test.YtfhcmggpojhegaaGreatDoorBap
import Derived.Test.YtfhcmggpojhegaaGreatDoorBaf
import Derived.Test.YtfhcmggpojhegaaGreatDoorBan
import Derived.Test.YtfhcmggpojhegaaGreatDoorBao
import Derived.Test.YtfhcmggpojhegaaGreatDoorBag
import Derived.Laws.IdiomArrays
import Derived.WideKeyPair
import Derived.WideKeyArr2

namespace Go.Proofs.YtfhcmggpojhegaaGreatDoor
open Go.RowKit
set_option linter.unusedVariables false
set_option maxHeartbeats 400000
theorem WO (cs:List Nat):cval cs=kF cs.length (fun k=>LB^k*lb cs k):=by
 have h:∀ n,n≤cs.length→cval (cs.take n)=kF n (fun k=>LB^k*lb cs k):=by
  intro n
  induction n with
  | zero=>intro _;simp [cval,kF]
  | succ n ih=>intro hn;rw [qP _ _ (by omega),ih (by omega),kF]
 have:=h cs.length (Nat.le_refl _)
 rwa [List.take_length] at this
theorem ab6 (b:List Nat) (n:Nat) (hn:b.length≤n):kF n (fun j=>LB^j*lb b j)=val b:=by
 have h:∀ n,n≤b.length→val (b.take n)=kF n (fun k=>LB^k*lb b k):=by
  intro n
  induction n with
  | zero=>intro _;simp [val,kF]
  | succ n ih=>intro hn;rw [nJ _ _ (by omega),ih (by omega),kF]
 induction n with
 | zero =>
  have:=h 0 (Nat.zero_le _)
  rw [List.length_eq_zero_iff.1 (by omega:b.length=0)];rfl
 | succ n ih =>
  rcases Nat.lt_or_ge n b.length with hlt | hge
  · have e:b.length=n+1:=by omega
    rw [← h (n+1) (by omega),← e,List.take_length]
  · rw [kF,ih hge,nN hge,Nat.mul_zero,Nat.add_zero]
theorem R7 (b:List Nat) (x i n:Nat):kF n (fun k=>LB^k*(if i≤k then x*lb b (k-i) else 0))=x*(LB^i*kF (n-i) (fun j=>LB^j*lb b j)):=by
 induction n with
 | zero=>simp [kF]
 | succ n ih =>
  rw [kF,ih]
  by_cases h:i≤n
  · rw [if_pos h,show n+1-i=(n-i)+1 by omega,kF,Nat.mul_add,Nat.mul_add]
    congr 1
    have:LB^n=LB^i*LB^(n-i):=by rw [← Nat.pow_add];congr 1;omega
    rw [this]
    grind
  · rw [if_neg h,show n+1-i=0 by omega,show n-i=0 by omega,Nat.mul_zero,Nat.add_zero]
theorem ab7 (n:Nat) (f g:Nat→Nat):kF n (fun k=>f k+g k)=kF n f+kF n g:=by
 induction n with
 | zero=>rfl
 | succ n ih=>rw [kF,kF,kF,ih];omega
theorem aeZ (a b:List Nat) (n i:Nat) (hi:i≤a.length) (hn:a.length+b.length≤n+1):kF n (fun k=>LB^k*cv a b i k)=val (a.take i)*val b:=by
 induction i with
 | zero =>
  have:∀ m,kF m (fun k=>LB^k*cv a b 0 k)=0:=fun m=>by
   induction m with
   | zero=>rfl
   | succ m ih=>rw [kF,ih];simp [cv]
  rw [this];simp [val]
 | succ i ih =>
  have e:(fun k=>LB^k*cv a b (i+1) k)=fun k=>LB^k*cv a b i k+LB^k*(if i≤k then lb a i*lb b (k-i) else 0):=by
   funext k;rw [cv,Nat.mul_add]
  rw [e,ab7,ih (by omega),R7,ab6 b _ (by omega),nJ _ _ (by omega),Nat.add_mul]
  congr 1
  rw [← Nat.mul_assoc,Nat.mul_comm (lb a i)]
theorem Nu (a b:List Nat):cval (EL a b)=val a*val b:=by
 by_cases h:a.length=0∨b.length=0
 · rw [Tx a b h]
   rcases h with h | h
   · rw [List.length_eq_zero_iff.1 h];simp [val,cval]
   · rw [List.length_eq_zero_iff.1 h];simp [val,cval]
 · rw [KV a b (by omega) (by omega),WO,zW]
   have e:=aeZ a b (a.length+b.length-1) a.length (Nat.le_refl _) (by omega)
   rw [List.take_length] at e
   rw [← e]
   exact PZ fun k hk=>by rw [KR _ _ _ hk]
theorem OX (v:Nat) (h:v<9223372036854775808):bits .andNot .i64 (v:Int) 1=((v-v%2:Nat):Int):=by
 have hv:(BitVec.ofInt 64 (v:Int)).toNat=v:=by rw [BitVec.toNat_ofInt];omega
 have h1:(BitVec.ofInt 64 (v:Int)&&&BitVec.ofInt 64 1)|||(BitVec.ofInt 64 (v:Int)&&&~~~ BitVec.ofInt 64 1)=BitVec.ofInt 64 (v:Int):=by
  ext i hi
  simp only [BitVec.getElem_or,BitVec.getElem_and,BitVec.getElem_not]
  cases (BitVec.ofInt 64 (v:Int))[i]<;>cases (BitVec.ofInt 64 1)[i]<;>rfl
 have h2:(BitVec.ofInt 64 (v:Int)&&&BitVec.ofInt 64 1)&&&(BitVec.ofInt 64 (v:Int)&&&~~~ BitVec.ofInt 64 1)=0:=by
  ext i hi
  simp only [BitVec.getElem_and,BitVec.getElem_not,BitVec.ofNat_eq_ofNat,BitVec.getElem_zero]
  cases (BitVec.ofInt 64 (v:Int))[i]<;>cases (BitVec.ofInt 64 1)[i]<;>rfl
 have h3:=BitVec.add_eq_or_of_and_eq_zero _ _ h2
 rw [h1] at h3
 have h4:=congrArg BitVec.toNat h3
 rw [BitVec.toNat_add,hv] at h4
 have h5:(BitVec.ofInt 64 (v:Int)&&&BitVec.ofInt 64 1).toNat=v%2:=by
  have e1:(BitVec.ofInt 64 1).toNat=2^1-1:=by decide
  rw [BitVec.toNat_and,e1,Nat.and_two_pow_sub_one_eq_mod,hv]
 have h6:(BitVec.ofInt 64 (v:Int)&&&~~~ BitVec.ofInt 64 1).toNat≤v:=by
  rw [BitVec.toNat_and,hv];exact Nat.and_le_left
 rw [h5] at h4
 show IntKind.i64.wrap ((BitVec.ofInt 64 (v:Int)&&&~~~ BitVec.ofInt 64 1).toNat:Nat)=_
 generalize (BitVec.ofInt 64 (v:Int)&&&~~~ BitVec.ofInt 64 1).toNat=r at *
 rw [IntKind.wrap_i64]
 omega
end Go.Proofs.YtfhcmggpojhegaaGreatDoor
/- Products by transforms. -/
namespace Go.Proofs.YtfhcmggpojhegaaGreatDoor
open Go.RowKit
set_option linter.all false
set_option maxRecDepth 100000
set_option maxHeartbeats 8000000
theorem ab8 (k:Nat):BB^k=LB^(2*k):=by rw [Nat.pow_mul];rfl
theorem TI (a b:List Nat) (ha:∀ x∈a,x<4294967296) (hb:∀ x∈b,x<4294967296) (hl:a.length≤100000):∀ x∈EL a b,x<79228162514264337593543950336:=by
 intro x hx
 unfold EL at hx
 split at hx
 · cases hx
 · obtain ⟨m,_,rfl⟩:=List.mem_map.1 hx
   have h1:=XL a b ha hb a.length m
   have h2:=Nat.mul_le_mul_right 18446744065119617025 hl
   omega
theorem FM (a b:List Nat):(EL a b).length≤a.length+b.length:=by
 unfold EL
 split
 · simp
 · rw [zW];omega
structure FaI (xs ys:List Nat) (m a:Nat) (o:List Nat):Prop where
 len:o.length=m
 lt:∀ x∈o,x<18446744073709551616
 val:aV o=val (xs.take a)*val ys
theorem OY {fA bs:List Nat} (ha:∀ x∈fA,x<4294967296) (hb:∀ x∈bs,x<4294967296):val fA*val bs<LB^(fA.length+bs.length):=by
 rw [Nat.pow_add]
 exact Nat.mul_lt_mul'' (qa fA ha) (qa bs hb)
theorem U.apC {w:World} {ad:Addr} {n c:Nat} {xs:List Nat} (h:U w (.slice (some ad) n c) xs) {k m c':Nat} (hk:k≤n) (hm:n-k=m) (hc':m≤c'):U w (.slice (some (ad.add k)) m c') (xs.drop k):=by
 obtain ⟨A,c,hv,hc,hx,hr⟩:=h
 injection hv with h1 h2 h3
 subst h1 h2 h3
 have hlen:(xs.drop k).length=m:=by simp;omega
 refine ⟨_,c',by rw [hlen],by omega,fun x hx'=>hx x (List.mem_of_mem_drop hx'),fun h0=>?_⟩
 obtain ⟨afR,hA,hb,hcell⟩:=hr (by omega)
 injection hA with hA
 subst hA
 refine ⟨_,rfl,by rw [aJ];exact hb,fun j hj=>?_⟩
 rw [addr_add_add,hcell (k+j) (by omega),xu]
theorem xG (b:Bool) (w:World) (G:World→Prop) (hg:G w) (hgx:Hid (∀ w w',G w→Ext w w'→G w')) (vx vy:Value) (xs ys:List Nat) (nx ny:Nat)
  (hM:Hid (∀ (W:World),G W→∀ (A A2:Option Addr) (na ca cb:Nat) (a b:List Nat) (n:Nat),U W (.slice A na ca) a→U W (.slice A2 ny cb) b→na≤30000→ny≤30000→(EL a b).length=n →
   Calls Tryz.prog 44 #[.slice A na ca,.slice A2 ny cb] W fun e w'=>∃ A3 c3,e = .returned (.slice A3 n c3)∧U3 w' (.slice A3 n c3) (EL a b)∧Ext W w'))
  (hx:U w vx xs) (hy:U w vy ys) (hnx:xs.length=nx) (hny:ys.length=ny) (hle:ny≤nx) (hb:b=true→ny<nx) (hn:nx≤1000) :
  Calls Tryz.prog 11 #[(if b then vy else vx),(if b then vx else vy)] w fun e w'=>(∃ u,e = .returned u∧Un w' u (val xs*val ys))∧Ext w w':=by
 obtain ⟨A,ca,rfl,hca⟩:=hx.shape
 obtain ⟨A2,cb,rfl,hcb⟩:=hy.shape
 have HL:Hid (xs.length=nx∧ys.length=ny):=⟨hnx,hny⟩
 rw [hnx] at hx hca ⊢
 rw [hny] at hy hcb ⊢
 have hlt:b=true→ny<nx:=hb
 have hd32:decide ((32768:Int)<(ny:Int))=false:=by rw [decide_eq_false_iff_not];omega
 clear hnx hny hb
 cases b
 case' false =>
  show Calls Tryz.prog 11 #[.slice A nx ca,.slice A2 ny cb] w _
  have hd:decide ((nx:Int)<(ny:Int))=false:=by rw [decide_eq_false_iff_not];omega
  go_enter Tryz.func11,Tryz.ntmps11
  go_upto_region 3 with (fail)
 case' true =>
  show Calls Tryz.prog 11 #[.slice A2 ny cb,.slice A nx ca] w _
  have hlt':=hlt rfl
  have hd:decide ((ny:Int)<(nx:Int))=true:=by rw [decide_eq_true_iff];omega
  go_enter Tryz.func11,Tryz.ntmps11
  go_upto_region 3 with (fail)
 all_goals
  clear hd hlt
  by_cases aj':ny=0
  · have hys:ys=[]:=List.length_eq_zero_iff.1 (by rw [HL.out.2];exact aj')
    have HF:Hid (∃ u',Ending.returned (.slice none 0 0) = .returned u'∧Un w u' (val xs*val ys)):=⟨_,rfl,by rw [hys];show Un w _ (val xs*0);rw [Nat.mul_zero];exact Fg w⟩
    have hE:=Ext.refl w
    subst aj'
    clear hys
    go_wp2
    go_ret
    exact ⟨HF.out,hE⟩
  · have hz:(((ny:Nat):Int)==0)=false:=by rw [beq_eq_false_iff_ne];omega
    have hw4:IntKind.u64.wrap (4*(ny:Int))=((4*ny:Nat):Int):=by rw [IntKind.wrap_u64];omega
    have h4:(4:Int)*(ny:Int)=((4*ny:Nat):Int):=by omega
    have avn:IntKind.u64.wrap ((4*ny:Nat):Int)=((4*ny:Nat):Int):=by rw [IntKind.wrap_u64];omega
    have hm4:((4*ny:Nat):Int)%18446744073709551616=((4*ny:Nat):Int):=by omega
    obtain ⟨L,hL⟩:∃ L,aU (4*ny)=L:=⟨_,rfl⟩
    have hlen:=Lib.hid (Cx w (4*ny) (by omega))
    rw [hL] at hlen
    have OP:=dW (4*ny)
    have Xh:=kD (n:=4*ny) (by omega)
    have hL1:1≤L:=by rw [← hL];exact AQ (by omega)
    rw [hL] at OP Xh
    have hQ3:2^L=2*2^(L-1):=by rw [← Nat.pow_succ'];congr 1;omega
    obtain ⟨Q,hQ⟩:∃ Q,2^L=Q:=⟨_,rfl⟩
    rw [hQ] at OP hQ3
    have hQ4:Q≤8*ny:=by omega
    have hsh:(2:Int)^L=(Q:Int):=by rw [← hQ,Int.natCast_pow];rfl
    have aB5:L≤20:=by
     rcases Nat.lt_or_ge 20 L with h | h
     · have:2^21≤2^L:=Nat.pow_le_pow_right (by decide) h
       rw [hQ] at this
       have:(2:Nat)^21=2097152:=by decide
       omega
     · exact h
    clear Xh hQ3
    generalize 4*ny=n4 at *
    go_wp2_with (fail)
    refine hlen.out.mono ?_
    rintro e w1 ⟨rfl,rfl⟩
    obtain ⟨q0,hq0⟩:∃ q0,Q-ny=q0:=⟨_,rfl⟩
    have aB6:(Q:Int)-(ny:Int)=(q0:Int):=by omega
    have avo:2≤q0:=by omega
    have aB7:q0≤8000:=by omega
    have hQw:IntKind.i64.wrap (Q:Int)=(Q:Int):=IntWalk.i64_in _ (by omega)
    have YS:(if (32768:Int)<(q0:Int) then (32768:Int) else (q0:Int))=(q0:Int):=by split<;>omega
    have YT:min (q0:Int) 32768=(q0:Int):=by omega
    have hmin3:(if 32768<q0 then (32768:Int) else (q0:Int))=(q0:Int):=by split<;>omega
    have hand:=OX q0 (by omega)
    obtain ⟨pc,hpc⟩:∃ pc,q0-q0%2=pc:=⟨_,rfl⟩
    obtain ⟨ph,Xu⟩:∃ ph,q0/2=ph:=⟨_,rfl⟩
    rw [hpc] at hand
    have hpp:pc=2*ph:=by omega
    have avp:1≤ph:=by omega
    have avq:ph≤4000:=by omega
    have aB8:2≤pc:=by omega
    have aB9:pc≤8000:=by omega
    have HPP:=Lib.hid hpp
    clear hpp
    obtain ⟨sh2,aCa⟩:∃ sh2,(nx+ny)/2=sh2:=⟨_,rfl⟩
    have hsi:((nx:Int)+(ny:Int))/2=(sh2:Int):=by omega
    obtain ⟨m,hm⟩:∃ m,sh2+2=m:=⟨_,rfl⟩
    have SX:(sh2:Int)+2=(m:Int):=by omega
    have hmm:nx+ny+1≤2*m:=by omega
    have hmb:m≤3000:=by omega
    obtain ⟨i0,hi,hz0,hz1,hz2⟩:=info_parts tX
    obtain ⟨B,hB⟩:∃ B,w.heap.size=B:=⟨_,rfl⟩
    have HBS:=Lib.hid hB
    clear hlen hw4 h4 avn hm4 hL OP hL1 hQ hQ4 hq0 hpc Xu avo avp avq
    go_wp2_with (at_make;refine wpList_make_full _ rfl _ _ 72 rfl w.heap.size 82 i0 (.int .u64 0) 1 Tryz.underlying72 hi hz0 hz1 _ _ _ _ m rfl rfl (by omega) (by omega) (by rw [hz2];omega) (by unfold maxLen;omega) (Nat.le_refl _) ?_;intro w2 hown hgrow)
    have ho0:=Ow.zeros hown
    have hE0:Ext w w2:=(Ext.refl w).grown hgrow (Nat.le_refl _) (fun _ h=>by cases h)
    rw [hB] at ho0
    clear hown hgrow hi hz0 hz1 hz2 i0 hB
    have hS0:Hid (FaI xs ys m (2*0) (List.replicate m 0)):=⟨by simp,fun x hx=>by simp at hx;omega,by simp [kS,val]⟩
    have ab3:=Lib.hid hx.lim
    have ab4:=Lib.hid hy.lim
    go_wp2
    go_loopw [7] (fun t wr=>∃ (ah:Nat) (o:List Nat),2*ah≤20000∧t = .int .i64 ((2*ah:Nat):Int)∧Hid (FaI xs ys m (2*ah) o)∧Ow wr B (.slice (some ⟨B,0,none⟩) m m) o∧Ext w wr) (fun t _=>nx-(intOf t).toNat)
    case atStart=>exact ⟨0,_,by decide,rfl,hS0,ho0,hE0⟩
    case round =>
     clear hS0 ho0 hE0
     obtain ⟨ah,o,hah,rfl,HO,hown,hE⟩:=hrel
     obtain ⟨a,ha⟩:∃ a,2*ah=a:=⟨_,rfl⟩
     rw [ha] at hah HO ⊢
     have apE:(a:Int)/2=(ah:Int):=by omega
     have HA:=Lib.hid ha
     by_cases hlt:a<nx
     · obtain ⟨ad,cx,WZ,hcx,hbx,RU⟩:=hx.opened HL.out.1 (by omega)
       injection WZ with w1 w2 w3
       subst w1 w3
       clear w2 RU hbx hcx
       obtain ⟨e,he⟩:∃ e,min (a+pc) nx=e:=⟨_,rfl⟩
       obtain ⟨p,hpe⟩:∃ p,e-a=p:=⟨_,rfl⟩
       obtain ⟨r,hrn⟩:∃ r,m-ah=r:=⟨_,rfl⟩
       have aCb:(if (nx:Int)<(a:Int)+(pc:Int) then (nx:Int) else (a:Int)+(pc:Int))=(e:Int):=by split<;>omega
       have aCc:min ((a:Int)+(pc:Int)) (nx:Int)=(e:Int):=by omega
       have aCd:(if nx<a+pc then (nx:Int) else (a:Int)+(pc:Int))=(e:Int):=by split<;>omega
       have f1:a<e:=by omega
       have f2:(a:Int)<(e:Int):=by omega
       have f3:e≤ca:=by omega
       have f4:(e:Int)≤(ca:Int):=by omega
       have f5:(a:Int)≤(e:Int):=by omega
       have f6:¬ (e=a):=by omega
       have f7:(0:Int)≤(a:Int):=by omega
       have f8:ah<m:=by omega
       have f9:(ah:Int)<(m:Int):=by omega
       have f10:(ah:Int)≤(m:Int):=by omega
       have f11:¬ (m=ah):=by omega
       have f12:e≤nx:=by omega
       have f13:(0:Int)≤(e:Int):=by omega
       have f14:(e:Int)≤(nx:Int):=by omega
       have f16:ah+r=m:=by omega
       have f17:(0:Int)≤(ah:Int):=by omega
       have f18:p≤1000:=by omega
       have hm6:m≤1000000:=by omega
       have hwa:IntKind.i64.wrap (ah:Int)=(ah:Int):=IntWalk.i64_in _ (by omega)
       have aCf:IntKind.i64.wrap ((a:Int)/2)=(ah:Int):=by rw [apE];exact hwa
       have aCg:(a:Int).tdiv 2=(ah:Int):=by rw [Int.tdiv_eq_ediv_of_nonneg (by omega)];exact apE
       obtain ⟨P,hP⟩:∃ P,(xs.take e).drop a=P:=⟨_,rfl⟩
       have hxp:U wr.drew (.slice (some (ad.add a)) p p) P:=by
        rw [← hP]
        exact (((hx.below hE).take f12 (Nat.le_refl e)).apC (Nat.le_of_lt f1) hpe (Nat.le_refl _)).below (Ext.refl wr).drew
       have hyd:U wr.drew (.slice A2 ny cb) ys:=(hy.below hE).below (Ext.refl wr).drew
       have hgD:G wr.drew:=hgx.out _ _ (hgx.out _ _ hg hE) (Ext.refl wr).drew
       have hlp:P.length=p:=by rw [← hP,List.length_drop,List.length_take,HL.out.1];omega
       obtain ⟨nc,hnc⟩:∃ nc,(EL P ys).length=nc:=⟨_,rfl⟩
       have apF:(EL P ys).length≤100000:=by have:=FM P ys;rw [hlp,HL.out.2] at this;omega
       have hC:=Lib.hid (hM.out wr.drew hgD (some (ad.add a)) A2 p p cb P ys nc hxp hyd (by omega) (by omega) hnc)
       have hCa:=Lib.hid (fun W v h=>Ef W v (EL P ys) h (TI P ys hxp.lim hyd.lim (by omega)) apF)
       obtain ⟨N,hN⟩:∃ N,val P*val ys=N:=⟨_,rfl⟩
       have hcv:=Nu P ys
       rw [hN] at hcv
       rw [hcv] at hCa
       have hNb:N<4294967296^(p+ny):=by
        have:=OY hxp.lim hyd.lim
        rw [hN,hlp,HL.out.2] at this
        exact this
       have hNl:=fT hNb
       obtain ⟨mw,hmw⟩:∃ mw,((limbs N).length+1)/2=mw:=⟨_,rfl⟩
       have hPk:=Lib.hid (fun W v h=>mG W v (limbs N) h (by omega) mw hmw)
       have hwl:=Lib.hid (oq (limbs N) (jd N))
       have hwv:Hid (aV (iH (limbs N))=N):=by rw [Hid,kT,aO]
       have hwn:Hid ((iH (limbs N)).length≤r):=by rw [Hid,jw,hmw];omega
       have hcut:=Mj (xs.take e) a (by rw [List.length_take,HL.out.1];omega)
       rw [List.take_take,Nat.min_eq_left (by omega),hP] at hcut
       have hHC:=Lib.hid hcut
       have hTE:Hid (xs.take (a+pc)=xs.take e):=by
        rcases Nat.le_total (a+pc) nx with h | h
        · rw [Hid,← he,Nat.min_eq_left h]
        · rw [Hid,← he,Nat.min_eq_right h,List.take_of_length_le (by rw [HL.out.1];exact h),List.take_of_length_le (by rw [HL.out.1];exact Nat.le_refl _)]
       have hprod:Hid (val (xs.take e)*val ys<BB^m):=by
        have h1:=OY (fA:=xs.take e) (bs:=ys) (fun x h=>ab3.out x (List.mem_of_mem_take h)) ab4.out
        rw [Hid,ab8]
        refine Nat.lt_of_lt_of_le h1 (Nat.pow_le_pow_right (by decide) ?_)
        rw [List.length_take,HL.out.1,HL.out.2];omega
       have hNN:=Lib.hid hN
       have IE:Ow wr.drew B (.slice (some ⟨B,0,none⟩) m m) o:=hown
       have hstep:Hid (a+pc=2*(ah+ph)):=by have:=HPP.out;rw [Hid];omega
       have hstep2:a+pc≤20000:=by omega
       clear hxp hyd hcut he hown hx hy hlp hP hN hcv hNb hNl hmw hnc apF hgD ha
       go_wp2_with (fail)
       go_region_held3 (fun X=>True)
        (first
         | exact trivial)
        (first
         | (go_at_call 44;((with_reducible refine hC.out.mono ?_);rintro e3 w3 ⟨A3,c3,rfl,hz3,hB3⟩))
         | (go_at_call 43;((with_reducible refine (hCa.out _ _ hz3).mono ?_);rintro e4 w4 ⟨⟨u4,rfl,BV⟩,hB4⟩;have NK:U w4 u4 (limbs N):=BV))
         | (go_at_call 50;((with_reducible refine (hPk.out _ _ NK).mono ?_);rintro e5 w5 ⟨rfl,Wv,dJ⟩;have OV:=((IE.ext hB3).ext hB4).ext dJ;have hg4:=IE.block.2;have hs3:=hB3.size;have hs4:=hB4.size;have hV5:=Wv.Fe hwl.out B (by omega)))
         | (go_at_call 53;((with_reducible refine (oH w5 B B m m ah r r o _ _ OV HO.out.lt (Nat.le_of_eq f16) (Nat.le_refl _) hm6 hV5 hwn.out).mono ?_);rintro e6 w6 ⟨⟨o6,cy6,rfl,OU,ho6⟩,dV⟩)))
       have hval:aV o+BB^ah*aV (iH (limbs N))=val (xs.take e)*val ys:=by
        rw [HO.out.val,hwv.out,ab8,HA.out,hHC.out,Nat.add_mul,Nat.mul_assoc,hNN.out]
       have hv6:=OU.done f16 (by rw [hval];exact hprod.out)
       rw [hval] at hv6
       have HST:Hid (FaI xs ys m (2*(ah+ph)) o6):=⟨OU.len,OU.lt,by rw [← hstep.out,hTE.out];exact hv6⟩
       have bu:Ext w w6:=(((hE.drew.below hB3).below hB4).below dJ).but dV (by rw [HBS.out];exact Nat.le_refl _)
       clear hv6 OU dV dJ hB4 hB3 hval hC hCa hPk hV5 OV Wv BV hz3 hHC hTE hprod IE HO hwl hwv hwn hNN
       go_wp2
       go_roundw
       case rel=>exact ⟨ah+ph,_,by rw [← hstep.out];exact hstep2,by rw [← hstep.out];go_num,HST,ho6,bu⟩
       case measure=>simp [intOf];omega
     · have hta:xs.take a=xs:=List.take_of_length_le (by rw [HL.out.1];omega)
       have hvv:Hid (aV o=val xs*val ys):=by rw [Hid,HO.out.val,hta]
       have hV:=hown.Fe HO.out.lt (B+1) (by omega)
       have hol:=HO.out.len
       clear hta HO hown
       go_wp2_with (fail)
       refine (pJ _ _ _ o hV (by omega)).mono ?_
       rintro e5 w5 ⟨⟨u,rfl,hu⟩,hB⟩
       rw [hvv.out] at hu
       replace hE:=hE.below hB
       have HF:Hid (∃ u',Ending.returned u = .returned u'∧Un w5 u' (val xs*val ys)):=⟨_,rfl,hu⟩
       clear hB hu hvv
       go_wp2
       go_ret
       exact ⟨HF.out,hE⟩
theorem ab9 (W:World) (A A2:Option Addr) (na nb ca cb:Nat) (a b:List Nat) (n:Nat) (h1:U W (.slice A na ca) a) (h2:U W (.slice A2 nb cb) b) (hna:na≤30000) (hnb:nb≤24) (hn:(EL a b).length=n) :
  Calls Tryz.prog 44 #[.slice A na ca,.slice A2 nb cb] W fun e w'=>∃ A3 c3,e = .returned (.slice A3 n c3)∧U3 w' (.slice A3 n c3) (EL a b)∧Ext W w':=by
 have e1:a.length=na:=by obtain ⟨_,_,e,_⟩:=h1;injection e with _ e _;exact e.symm
 have e2:b.length=nb:=by obtain ⟨_,_,e,_⟩:=h2;injection e with _ e _;exact e.symm
 refine (P5 W _ _ a b h1 h2 (by omega) (by omega) (by omega) _ rfl).mono ?_
 rintro e w' ⟨z,rfl,hz,hB⟩
 obtain ⟨A3,c3,e3,_⟩:=id hz
 rw [hn] at e3
 subst e3
 exact ⟨A3,c3,rfl,hz,hB⟩
theorem Nt (w:World) (va vb:Value) (xs ys:List Nat) (ha:U w va xs) (hb:U w vb ys) (hla:xs.length≤24) (hlb:ys.length≤24) :
  Calls Tryz.prog 11 #[va,vb] w fun e w'=>(∃ u,e = .returned u∧Un w' u (val xs*val ys))∧Ext w w':=by
 by_cases hlt:xs.length<ys.length
 · have:=xG true w (fun _=>True) trivial (fun w w' _ _=>trivial) vb va ys xs _ _ (fun W _ A A2 na ca cb a b n h1 h2 h3 h4 h5=>ab9 W A A2 na _ ca cb a b n h1 h2 h3 hla h5) hb ha rfl rfl (by omega) (fun _=>hlt) (by omega)
   rw [Nat.mul_comm (val ys)] at this
   exact this
 · exact xG false w (fun _=>True) trivial (fun w w' _ _=>trivial) va vb xs ys _ _ (fun W _ A A2 na ca cb a b n h1 h2 h3 h4 h5=>ab9 W A A2 na _ ca cb a b n h1 h2 h3 hlb h5) ha hb rfl rfl (by omega) (fun h=>by cases h) (by omega)
end Go.Proofs.YtfhcmggpojhegaaGreatDoor
/- Products by whichever way; powers. -/
namespace Go.Proofs.YtfhcmggpojhegaaGreatDoor
open Go.RowKit
set_option linter.unusedVariables false
set_option maxHeartbeats 400000
theorem PE (w:World) (va vb:Value) (xs ys:List Nat) (ha:U w va xs) (hb:U w vb ys) (hla:xs.length≤1000) (hlb:ys.length≤1000) (akb:min xs.length ys.length≤398) :
  Calls Tryz.prog 17 #[va,vb] w fun e w'=>(∃ u,e = .returned u∧Un w' u (val xs*val ys))∧Ext w w':=by
 obtain ⟨A,ca,rfl,hca⟩:=ha.shape
 obtain ⟨A2,cb,rfl,hcb⟩:=hb.shape
 have hSc:=Lib.hid (BP w _ _ xs ys ha hb hla hlb)
 have hKa:=Lib.hid (DT w _ _ xs ys ha hb hla hlb)
 have hTo:=Lib.hid (Ih w _ _ xs ys ha hb hla hlb akb)
 generalize xs.length=lx at *
 generalize ys.length=ly at *
 obtain ⟨m,hm⟩:∃ m,min lx ly=m:=⟨_,rfl⟩
 have hm1:(if (ly:Int)<(lx:Int) then (ly:Int) else (lx:Int))=(m:Int):=by split<;>omega
 have QB:(if ly<lx then (ly:Int) else (lx:Int))=(m:Int):=by split<;>omega
 obtain ⟨q,hq⟩:∃ q,(m+1)/2=q:=⟨_,rfl⟩
 have hqi:((m:Int)+1)/2=(q:Int):=by omega
 have axT:q<200:=by omega
 clear ha hb hm hq akb
 by_cases h40:q<40
 · have hd:decide ((q:Int)<40)=true:=by rw [decide_eq_true_iff];omega
   go_enter Tryz.func17,Tryz.ntmps17
   go_wp2_with (fail)
   refine hSc.out.mono ?_
   rintro e w1 ⟨⟨u,rfl,hu⟩,hB⟩
   have HF:Hid (∃ u',Ending.returned u = .returned u'∧Un w1 u' (val xs*val ys)):=⟨_,rfl,hu⟩
   clear hu
   go_wp2
   go_ret
   exact ⟨HF.out,hB⟩
 · have hd:decide ((q:Int)<40)=false:=by rw [decide_eq_false_iff_not];omega
   have hd2:decide ((q:Int)<200)=true:=by rw [decide_eq_true_iff];omega
   go_enter Tryz.func17,Tryz.ntmps17
   go_wp2_with (fail)
   refine hKa.out.mono ?_
   rintro e w1 ⟨⟨u,rfl,hu⟩,hB⟩
   have HF:Hid (∃ u',Ending.returned u = .returned u'∧Un w1 u' (val xs*val ys)):=⟨_,rfl,hu⟩
   clear hu
   go_wp2
   go_ret
   exact ⟨HF.out,hB⟩
theorem jO {n k:Nat} (h:n<LB^k):(limbs n).length≤k:=fT h
theorem U.dK {w:World} {v:Value} {n:Nat} (h:Un w v n):U w v (limbs n):=h
end Go.Proofs.YtfhcmggpojhegaaGreatDoor
/- Quotient and rest, word by word. -/
namespace Go.Proofs.YtfhcmggpojhegaaGreatDoor
open Go.RowKit
set_option linter.unusedVariables false
set_option maxHeartbeats 400000
theorem Py (n:Nat):BB^n=2^(64*n):=by
 rw [Nat.pow_mul,show (2:Nat)^64=BB from by decide]
theorem Cc (n:Nat):(4294967296:Nat)^n=2^(32*n):=by
 rw [Nat.pow_mul,show (2:Nat)^32=4294967296 from by decide]
theorem afc (n:Nat):BB^n=4294967296^(2*n):=by
 rw [Py,Cc];congr 1;omega
theorem Pz (b L n sh V:Nat) (hL:(limbs b).length=L) (h2:2≤L) (hn:(L+1)/2=n) (hsh:64*n-aU b=sh) (hV:b*2^sh=V) :
  aU b≤64*n∧sh≤64∧V<BB^n∧9223372036854775808*BB^(n-1)≤V∧(limbs V).length≤2*n:=by
 have h1:aU b≤32*L:=by rw [← hL];exact MN b
 have h3:4294967296^(L-1)≤b:=oU (by omega)
 rw [Cc] at h3
 have h4:=lJ h3
 have hb0:b≠0:=by
  intro e
  rw [e,bf] at hL
  simp at hL;omega
 have h5:=dW b
 have h6:=kD hb0
 have h7:V<BB^n:=by
  rw [← hV,Py,show 64*n=aU b+sh by omega,Nat.pow_add]
  exact Nat.mul_lt_mul_of_pos_right h5 (Nat.two_pow_pos _)
 refine ⟨by omega,by omega,h7,?_,fT (by rw [← afc];exact h7)⟩
 have h8:2^(aU b-1)*2^sh≤V:=by rw [← hV];exact Nat.mul_le_mul_right _ h6
 rw [← Nat.pow_add,show aU b-1+sh=63+64*(n-1) by omega,Nat.pow_add,← Py,show (2:Nat)^63=9223372036854775808 from by decide] at h8
 exact h8
theorem PD (A lA n m:Nat) (hA:(limbs A).length=lA) (hm:max ((lA+1)/2) n+1=m):A<BB^(m-1):=by
 have h1:=nO A
 rw [hA] at h1
 refine Nat.lt_of_lt_of_le h1 ?_
 rw [afc]
 exact Nat.pow_le_pow_right (by decide) (by omega)
theorem Vf (vs:List Nat) (k V:Nat) (hl:vs.length=k+1) (hx:∀ x∈vs,x<18446744073709551616) (hv:aV vs=V) (h:9223372036854775808*BB^k≤V):9223372036854775808≤lb vs k:=by
 have h1:=tV vs k hl hx
 rw [hv,Nat.mul_comm] at h1
 have h2:9223372036854775808*BB^k<(lb vs k+1)*BB^k:=by omega
 have:=Nat.lt_of_mul_lt_mul_right h2
 omega
set_option maxRecDepth 100000 in
set_option maxHeartbeats 8000000 in
theorem MO (w:World) (va vb:Value) (a b q r:Nat) (ha:Un w va a) (hb:Un w vb b) (hla:(limbs a).length≤1000) (hlb:(limbs b).length≤1000) (h2:2≤(limbs b).length) (hq:a/b=q) (hr:a%b=r) :
  Calls Tryz.prog 126 #[va,vb] w fun e w'=>(∃ x y,e = .returned (.tuple #[x,y])∧Un w' x q∧Un w' y r)∧Ext w w':=by
 obtain ⟨L,hL⟩:∃ L,(limbs b).length=L:=⟨_,rfl⟩
 obtain ⟨n,hn⟩:∃ n,(L+1)/2=n:=⟨_,rfl⟩
 obtain ⟨bl,hbl⟩:∃ bl,aU b=bl:=⟨_,rfl⟩
 obtain ⟨sh,hsh⟩:∃ sh,64*n-bl=sh:=⟨_,rfl⟩
 obtain ⟨V0,hV⟩:∃ V0,b*2^sh=V0:=⟨_,rfl⟩
 obtain ⟨A0,hA⟩:∃ A0,a*2^sh=A0:=⟨_,rfl⟩
 rw [hL] at hlb h2
 obtain ⟨m1,m2,m3,m4,m5⟩:=Pz b L n sh V0 hL h2 hn (by rw [hbl];exact hsh) hV
 rw [hbl] at m1
 obtain ⟨lA,hlA⟩:∃ lA,(limbs A0).length=lA:=⟨_,rfl⟩
 have aq8:lA≤1002:=by rw [← hlA,← hA];exact Nat.le_trans (Jt a 1000 sh 2 hla (by omega)) (by omega)
 obtain ⟨h,hh⟩:∃ h,(lA+1)/2=h:=⟨_,rfl⟩
 obtain ⟨mx,hmx⟩:∃ mx,max h n=mx:=⟨_,rfl⟩
 obtain ⟨m,hm⟩:∃ m,mx+1=m:=⟨_,rfl⟩
 have ak7:=PD A0 lA n m hlA (by rw [hh,hmx];exact hm)
 obtain ⟨k,hk⟩:∃ k,m-n=k:=⟨_,rfl⟩
 have hkm:k+n=m:=by omega
 have hk1:1≤k:=by omega
 have hn1:1≤n:=by omega
 have hnb:n≤501:=by omega
 have hmb:m≤503:=by omega
 obtain ⟨n1,Xy⟩:∃ n1,n=n1+1:=⟨n-1,by omega⟩
 have Xz:=Lib.hid (vw w vb b hb (by omega) (bl:Int) (by rw [hbl]))
 have ak8:=Lib.hid (fun W v (h:Un W v b)=>MP W v b (sh:Int) h (Int.natCast_nonneg _) (by omega) (by omega) V0 (by rw [Int.toNat_natCast];exact hV))
 have ak9:=Lib.hid (fun W v (h:Un W v a)=>MP W v a (sh:Int) h (Int.natCast_nonneg _) (by omega) (by omega) A0 (by rw [Int.toNat_natCast];exact hA))
 have HPv:=Lib.hid (fun W v (h:Un W v V0)=>DD W v (limbs V0) h (by omega) n (by omega) (by omega))
 have HPa:=Lib.hid (fun W v (h:Un W v A0)=>DD W v (limbs A0) h (by omega) m (by rw [hlA];omega) (by omega))
 have ak':Hid (∀ vs:List Nat,vs.length=n→(∀ x∈vs,x<18446744073709551616)→aV vs=V0→9223372036854775808≤lb vs n1):=fun vs e1 e2 e3=>Vf vs n1 V0 (by omega) e2 e3 (by rw [show n1=n-1 by omega];exact m4)
 have ala:Hid (∀ o:List Nat,o.length=m→(∀ x∈o,x<18446744073709551616)→aV o=A0→Vb V0 A0 n m k o (List.replicate k 0)):=fun o e1 e2 e3=>Vb.start V0 A0 n m o k hkm (by omega) e1 e2 e3 ak7 (Nat.le_trans (Nat.le_mul_of_pos_left _ (by decide)) m4)
 have HLT:=Lib.hid m3
 obtain ⟨R0,hR0⟩:∃ R0,r*2^sh=R0:=⟨_,rfl⟩
 have HDN:Hid (∀ o ql,Vb V0 A0 n m 0 o ql→aV ql=q∧aV (o.take n)=R0):=fun o ql h=>by
  obtain ⟨d1,d2⟩:=h.done m3 (by omega)
  rw [← hA,← hV,Nat.mul_div_mul_right _ _ (Nat.two_pow_pos sh),hq] at d1
  rw [← hA,← hV,Nat.mul_mod_mul_right,hr,hR0] at d2
  exact ⟨d1.symm,d2⟩
 have hrb:(limbs R0).length≤1002:=by
  rw [← hR0]
  refine Nat.le_trans (Jt r 1000 sh 2 ?_ (by omega)) (by omega)
  exact Nat.le_trans (eZ (by rw [← hr];exact Nat.mod_le _ _)) hla
 have alb:=Lib.hid (fun W v (h:Un W v R0)=>DK W v R0 (sh:Int) h (Int.natCast_nonneg _) (by omega) (by omega) r (by rw [Int.toNat_natCast,← hR0];exact Nat.mul_div_cancel _ (Nat.two_pow_pos sh)))
 have HNN:=Lib.hid (And.intro Xy (And.intro hkm (And.intro hk1 (And.intro hn1 (And.intro hnb hmb)))))
 have e1:((L:Int)+1)/2=(n:Int):=by omega
 have e2:((L:Int)+1).tdiv 2=(n:Int):=by rw [Int.tdiv_eq_ediv_of_nonneg (by omega)];exact e1
 have e3:(64:Int)*(n:Int)-(bl:Int)=(sh:Int):=by omega
 have e4:((lA:Int)+1)/2=(h:Int):=by omega
 have e5:((lA:Int)+1).tdiv 2=(h:Int):=by rw [Int.tdiv_eq_ediv_of_nonneg (by omega)];exact e4
 have e6:(if (h:Int)<(n:Int) then (n:Int) else (h:Int))=(mx:Int):=by split<;>omega
 have e7:(if h<n then (n:Int) else (h:Int))=(mx:Int):=by split<;>omega
 have e8:(mx:Int)+1=(m:Int):=by omega
 have e9:(m:Int)-(n:Int)=(k:Int):=by omega
 have HBD:=Lib.hid (And.intro hlb (And.intro aq8 (show bl≤64*501 by omega)))
 obtain ⟨Ab,cb,rfl,hcb⟩:=hb.shape
 rw [hL] at Xz
 have hb':Un w (.slice Ab (limbs b).length cb) b:=hb
 rw [hL] at hb' ⊢
 have HLA:=Lib.hid hlA
 have gK:=Ext.refl w
 clear hb hL hn hbl hsh hV hA hlA hh hmx hm hk m1 m3 m4 m5 ak7 hq hr hR0 Xy hkm hk1 hn1 hcb
 go_enter Tryz.func126,Tryz.ntmps126
 go_wp2_with (fail)
 refine Xz.out.mono ?_
 rintro e w1 ⟨rfl,hB⟩
 replace hb':=U.below (U.dK hb') hB
 replace ha:=U.below (U.dK ha) hB
 replace gK:=gK.below hB
 clear hB Xz
 go_wp2_with (fail)
 refine (ak8.out _ _ hb').mono ?_
 rintro e w2 ⟨v2,rfl,hv2,hB⟩
 replace ha:=U.below (U.dK ha) hB
 replace gK:=gK.below hB
 clear hB ak8 hb'
 go_wp2_with (fail)
 have hs2:=gK.size
 refine (HPv.out _ _ hv2).mono ?_
 rintro e w3 ⟨rfl,⟨vs,hov,hwv,hxv,hlv⟩,hB⟩
 rw [aO] at hwv
 replace hov:=hov.mJ hs2
 replace ha:=U.below (U.dK ha) hB
 replace gK:=gK.below hB
 clear hB HPv hv2
 generalize w2.heap.size=gv at *
 go_wp2_with (fail)
 refine (ak9.out _ _ ha).mono ?_
 rintro e w4 ⟨va4,rfl,hva,hB⟩
 replace hov:=hov.ext hB
 replace gK:=gK.below hB
 clear hB ak9 ha
 obtain ⟨Aa,ca,rfl,hca⟩:=U.shape (U.dK hva)
 rw [HLA.out] at hva ⊢
 go_wp2_with (fail)
 have hs4:=gK.size
 have hvb:=hov.block
 refine (HPa.out _ _ hva).mono ?_
 rintro e w5 ⟨rfl,⟨o,hoa,hwa,hxa,hlo⟩,hB⟩
 rw [aO] at hwa
 have hne1:gv≠w4.heap.size:=by omega
 replace hoa:=hoa.mJ hs4
 replace hov:=hov.ext hB
 replace gK:=gK.below hB
 clear hB HPa hva hca hvb
 generalize w4.heap.size=gu at *
 have hST:=ala.out o hlo hxa hwa
 have HSS:=Lib.hid hST
 have htop:=ak'.out vs hlv hxv hwv
 have hs5:=gK.size
 have hub:=hoa.block
 have hvb:=hov.block
 have hne2:gu≠w5.heap.size:=by omega
 have ayJ:gv≠w5.heap.size:=by omega
 obtain ⟨i0,hi,hz0,hz1,hz2⟩:=info_parts tX
 have hkb:k≤503:=by have:=HNN.out;omega
 have hmb:m≤503:=by have:=HNN.out;omega
 have hnb:n≤501:=by have:=HNN.out;omega
 have HTP:=Lib.hid htop
 have HWV:=Lib.hid hwv
 have HXV:=Lib.hid hxv
 clear hST htop hwv hxv hwa hxa ala ak'
 go_wp2_with (at_make;refine wpList_make_full _ rfl _ _ 72 rfl w5.heap.size 82 i0 (.int .u64 0) 1 Tryz.underlying72 hi hz0 hz1 _ _ _ _ k rfl rfl (by omega) (by omega) (by rw [hz2];omega) (by unfold maxLen;omega) (Nat.le_refl _) ?_;intro w6 hown hgrow)
 have hoq:=Ow.zeros hown
 have bu:Ext w5 w6:=(Ext.refl w5).grown hgrow (Nat.le_refl _) (fun _ h=>by cases h)
 replace hoq:=hoq.mJ hs5
 replace hoa:=hoa.ext bu
 replace hov:=hov.ext bu
 replace gK:=gK.below bu
 generalize w5.heap.size=gq at *
 have hgu:=hoa.block.1
 clear hown hgrow hi hz0 hz1 hz2 i0 bu hub hvb hs2 hs4 hs5
 go_wp2
 go_loopw [11] (fun t wr=>∃ (j:Nat) (z:Int) (o ql:List Nat),j≤k∧t = .int .i64 z∧z=(j:Int)-1∧Hid (Vb V0 A0 n m j o ql)∧Ow wr w.heap.size (.slice (some ⟨gu,0,none⟩) m m) o∧Ow wr w.heap.size (.slice (some ⟨gq,0,none⟩) k k) ql∧Ow wr w.heap.size (.slice (some ⟨gv,0,none⟩) n n) vs∧Ext w wr) (fun t _=>(intOf t+1).toNat)
 case atStart=>exact ⟨k,_,_,_,Nat.le_refl _,rfl,rfl,HSS,hoa,hoq,hov,gK⟩
 case round =>
  clear hoa hoq hov gK HSS
  obtain ⟨j,z,o,ql,hj,rfl,hz,HO,hoa,hoq,hov,hE⟩:=hrel
  cases j with
  | zero =>
   obtain rfl:z = -1:=by omega
   obtain ⟨d1,d2⟩:=HDN.out o ql HO.out
   have hq0:=hoq.Fe HO.out.xq (gq+1) (by omega)
   have hlq:ql.length≤1000000:=by have:=HO.out.lq;omega
   have hu0:=(hoa.Fe HO.out.xo (gu+1) (by omega)).take (k:=n) (c':=m) (by have:=HNN.out;omega) (by have:=HNN.out;omega)
   have hun:(o.take n).length≤1000000:=by rw [List.length_take];omega
   have HU1:=Lib.hid (yc _ _ _ _ (V.below hq0 ((Ext.refl wr).drew)) hlq q d1)
   have HU2:=Lib.hid (fun W (h:V (gu+1) W (.slice (some ⟨gu,0,none⟩) n m) (o.take n))=>yc W _ _ _ h hun R0 d2)
   have hu1:=V.below hu0 ((Ext.refl wr).drew)
   have b1:(n:Int)≤(m:Int):=by have:=HNN.out;omega
   have b2:n≤m:=by have:=HNN.out;omega
   have b3:(0:Int)≤(n:Int):=Int.natCast_nonneg n
   clear d1 d2 hq0 hlq hun hu0 hoa hoq hov HO HDN hz HTP HWV HXV HNN
   go_wp2_with (fail)
   go_region_held3 (fun X=>True)
    (first
     | exact trivial)
    (first
     | (go_at_call 178;((with_reducible refine HU1.out.mono ?_);rintro e wa ⟨⟨x1,rfl,hx1⟩,hB1⟩;have hu2:=hu1.below hB1))
     | (go_at_call 178;((with_reducible refine (HU2.out _ hu2).mono ?_);rintro e wb ⟨⟨x2,rfl,hx2⟩,hB2⟩;have ac0:=U.below (U.dK hx1) hB2))
     | (go_at_call 64;((with_reducible refine (alb.out _ _ hx2).mono ?_);rintro e wc ⟨x3,rfl,hx3,hB3⟩;have ald:=U.below ac0 hB3)))
   have HF:Hid (∃ x y,Ending.returned (.tuple #[x1,x3]) = .returned (.tuple #[x,y])∧Un wc x q∧Un wc y r):=⟨_,_,rfl,ald,hx3⟩
   have hEF:=((hE.drew.below hB1).below hB2).below hB3
   clear hx1 hx2 hx3 ac0 ald hB1 hB2 hB3 hu1 hu2 HU1 HU2 alb hE
   go_wp2
   go_ret2
   exact ⟨HF.out,hEF⟩
  | succ j =>
   obtain rfl:z=(j:Int):=by omega
   obtain ⟨Xy,hkm,hk1,hn1,-,-⟩:=HNN.out
   obtain ⟨p1,p2,p3,p4⟩:=SL HO.out (by omega) HLT.out
   have ale:Ow wr w.heap.size (.slice (some ⟨gu,0,none⟩) m m) (Sg (o.take j) ((o.drop j).take (n+1)) ((o.drop j).drop (n+1))):=by rw [← Xm];exact hoa
   have hV0:V gu wr (.slice (some ⟨gv,0,none⟩) n n) vs:=hov.Fe HXV.out gu hne1
   have alf:=Lib.hid (MM wr gu w.heap.size m m j (m-j) _ _ _ vs _ ale (fun x hx=>HO.out.xo x (List.mem_of_mem_drop (List.mem_of_mem_take hx))) p4 n n1 Xy p1 hlv (by omega) (by omega) hV0 HTP.out (by rw [HWV.out];exact p2))
   have i1:(j:Int)+(n:Int)+1≤(m:Int):=by omega
   have i2:(j:Int)≤(j:Int)+(n:Int)+1:=by omega
   have i3:j≤m:=by omega
   have i4:j+n+1-j=n+1:=by omega
   have i5:((j:Int)+(n:Int)+1).toNat=j+n+1:=by omega
   have i6:j<k:=by omega
   have i7:j+1+n≤m:=by omega
   clear Xy hkm hk1 hn1 p1 p2 p3 p4 ale hV0 hoa hz
   go_wp2_with (fail)
   refine alf.out.mono ?_
   rintro e w7 ⟨⟨d,s',rfl,hd,hsl,hsx,Xk,hdv,alg⟩,hB⟩
   have HSN:Hid (Vb V0 A0 n m j (Sg (o.take j) s' ((o.drop j).drop (n+1))) (ql.set j d)):=HO.out.step i7 HLT.out d (aV s') s' hsl hsx hd (by rw [← HWV.out];exact Xk) rfl (by rw [← HWV.out];exact hdv)
   have hq2:=hoq.but hB (show gq≠gu by omega)
   have MQ:=hov.but hB (show gv≠gu by omega)
   have hf:=hq2.frozen j
   have hcz:=hq2.cell (j:=j) i6
   have hq3:=hq2.mQ j d
   have hBq:But gq w7 (w7.setCell ⟨gq,j,none⟩ (.int .u64 (d:Nat))):=(But.refl gq w7).setCell j _
   have arb:=alg.but hBq (show gu≠gq by omega)
   have arc:=MQ.but hBq (show gv≠gq by omega)
   have hgq:=hq2.block.1
   have bJ:=(hE.but hB hgu).setCell (p:=⟨gq,j,none⟩) hgq (.int .u64 (d:Nat))
   clear alf hsl hsx Xk hdv alg hB hq2 MQ hBq hoq hov hE HO hd
   go_wp2
   go_roundw
   case rel=>exact ⟨j,_,_,_,by omega,rfl,rfl,HSN,arb,hq3,arc,bJ⟩
   case measure=>simp [intOf]
end Go.Proofs.YtfhcmggpojhegaaGreatDoor
/- Powers; live questions. -/
namespace Go.Proofs.YtfhcmggpojhegaaGreatDoor
open Go.RowKit
set_option linter.unusedVariables false
set_option maxHeartbeats 400000
theorem qY (x:Nat) (h0:x≠0) (h:x<4294967296):limbs x=[x]:=by
 rw [fH h0,Nat.mod_eq_of_lt h,Nat.div_eq_of_lt h,bf]
end Go.Proofs.YtfhcmggpojhegaaGreatDoor
/- Live questions, whose answers are fixed. -/
namespace Go.Proofs.YtfhcmggpojhegaaGreatDoor
open Go.RowKit
set_option linter.unusedVariables false
set_option maxHeartbeats 400000
theorem adv (w:World) (v:Value) (cs:List Nat) (hu:U3 w v cs) (hcs:∀ x∈cs,x<79228162514264337593543950336) (hl:cs.length≤100000) (k:Nat) (hk:cval cs=k) :
  Calls Tryz.prog 43 #[v] w fun e w'=>∃ u,e = .returned u∧Un w' u k∧Ext w w':=by
 refine (Ef w v cs hu hcs hl).mono ?_
 rw [hk]
 rintro e w' ⟨⟨u,h1,h2⟩,h3⟩
 exact ⟨u,h1,h2,h3⟩
end Go.Proofs.YtfhcmggpojhegaaGreatDoor
/- Division by school, and whatever goes to it. -/
namespace Go.Proofs.YtfhcmggpojhegaaGreatDoor
open Go.RowKit
set_option linter.unusedVariables false
set_option maxHeartbeats 400000
theorem Vg {b:Nat} (h:(limbs b).length=1):b<4294967296∧b≠0∧lb (limbs b) 0=b:=by
 have h1:=dX (show (limbs b).length≤1 by omega)
 rw [Nat.pow_one] at h1
 have h0:b≠0:=by
  intro e;rw [e,bf] at h;simp at h
 refine ⟨h1,h0,?_⟩
 rw [r9,Nat.pow_zero,Nat.div_one,Nat.mod_eq_of_lt h1]
theorem Ff {b:Nat} (h:b≠0):0<(limbs b).length:=by
 rcases Nat.eq_zero_or_pos (limbs b).length with e | e
 · exact absurd (oV.1 (List.length_eq_zero_iff.1 e)) h
 · exact e
def Dv (w w':World) (e:Ending) (q r:Nat):Prop:=(∃ x y,e = .returned (.tuple #[x,y,.int .i64 0])∧Un w' x q∧Un w' y r)∧Ext w w'
set_option maxRecDepth 100000 in
set_option maxHeartbeats 8000000 in
theorem zO (w:World) (va vb:Value) (a b q r:Nat) (ha:Un w va a) (hb:Un w vb b) (hla:(limbs a).length≤1000) (hlb:(limbs b).length≤1000) (h0:b≠0) (hq:a/b=q) (hr:a%b=r) :
  Calls Tryz.prog 67 #[va,vb] w fun e w'=>Dv w w' e q r:=by
 unfold Dv
 have hnz:=Ff h0
 obtain ⟨Ab,cb,rfl,hcb⟩:=U.shape (U.dK hb)
 obtain ⟨L,hL⟩:∃ L,(limbs b).length=L:=⟨_,rfl⟩
 obtain ⟨k,hk⟩:∃ k,dY (a:Int) (b:Int)=k:=⟨_,rfl⟩
 have mY:=Lib.hid (pU w va _ a b ha hb k hk)
 have hb2:=hb
 rw [hL] at hnz hlb hb2 mY ⊢
 have hL0:((L:Int)==0)=false:=by rw [beq_eq_false_iff_ne];omega
 have agL:¬ L=0:=by omega
 have gK:=Ext.refl w
 rcases Nat.lt_or_ge a b with hlt | hge
 · have hq0:q=0:=by rw [← hq];exact Nat.div_eq_of_lt hlt
   have hr0:r=a:=by rw [← hr];exact Nat.mod_eq_of_lt hlt
   have hk1:k = -1:=by rw [← hk];exact kU (by omega)
   subst hq0 hr0 hk1
   clear hq hr hk hlt hb hb2 hL hcb hla hlb
   go_enter Tryz.func67,Tryz.ntmps67
   go_wp2_with (fail)
   refine mY.out.mono ?_
   rintro e w1 ⟨rfl,hB⟩
   replace ha:=U.below (U.dK ha) hB
   replace gK:=gK.below hB
   have HF:Hid (∃ x y,Ending.returned (.tuple #[.slice none 0 0,va,.int .i64 0]) = .returned (.tuple #[x,y,.int .i64 0])∧Un w1 x 0∧Un w1 y r):=⟨_,_,rfl,Fg _,ha⟩
   clear hB mY ha
   go_wp2
   go_ret3
   exact ⟨HF.out,gK⟩
 · have hk1:¬ k<0:=by
    rw [← hk]
    rcases Nat.lt_or_ge b a with h | h
    · rw [lW (by omega)];decide
    · rw [show a=b by omega,oW];decide
   have hk2:decide (k<0)=false:=by rw [decide_eq_false_iff_not];exact hk1
   by_cases h1:L=1
   · obtain ⟨b1,b2,b3⟩:=Vg (hL.trans h1)
     have hS:=Lib.hid (fun W (h:Un W va a)=>DJ W va a b h (by omega) b1 h0 q r hq hr)
     have hL1:((L:Int)==1)=true:=by rw [beq_iff_eq];omega
     obtain ⟨ad,rfl,hbk,hcell⟩:∃ ad,Ab=some ad∧ad.block<w.heap.size∧w.cell? ad=some (.int .u32 (b:Nat)):=by
      obtain ⟨A',c',hv,_,_,hr'⟩:=hb
      obtain ⟨ad,e1,e2,e3⟩:=hr' (by omega)
      injection hv with hv1
      have:=e3 0 (by omega)
      rw [gN,b3] at this
      exact ⟨ad,by rw [hv1,e1],e2,this⟩
     have hrb:r<4294967296:=by rw [← hr];exact Nat.lt_trans (Nat.mod_lt _ (by omega)) b1
     have HRB:=Lib.hid hrb
     subst h1
     clear hq hr hk hge b1 b2 b3 hb hb2 hL hla hlb h0 hrb agL
     go_enter Tryz.func67,Tryz.ntmps67
     go_wp2_with (fail)
     refine mY.out.mono ?_
     rintro e w1 ⟨rfl,hB⟩
     replace ha:=U.below (U.dK ha) hB
     replace gK:=gK.below hB
     have hcell1:=(hB.cell (p:=ad) hbk).trans hcell
     clear hB mY hcell
     go_wp2_with (fail)
     refine (hS.out _ ha).mono ?_
     rintro e w2 ⟨⟨x,rfl,hx⟩,hB⟩
     replace gK:=gK.below hB
     have HU:Hid (U (w2.alloc (.cells #[.int .u32 (r:Nat)] 27)) (.slice (some ⟨w2.heap.size,0,none⟩) 1 1) [r]):=Fh w2 [r] (by simpa using HRB.out) (by simp)
     have HMK:Hid (∀ W v,U W v [r]→Calls Tryz.prog 57 #[v] W fun e w'=>∃ u,e = .returned u∧Un w' u r∧Ext W w'):=fun W v h=>Ca W v [r] h r (by simp [val])
     clear hB hS hcell1 ha
     go_wp2_with (fail)
     refine (HMK.out _ _ HU.out).mono ?_
     rintro e w3 ⟨y,rfl,hy,hB⟩
     have HF:Hid (∃ x' y',Ending.returned (.tuple #[x,y,.int .i64 0]) = .returned (.tuple #[x',y',.int .i64 0])∧Un w3 x' q∧Un w3 y' r):=⟨_,_,rfl,U.below (U.alloc (U.dK hx) _) hB,hy⟩
     have hEF:=(gK.alloc _).below hB
     clear hx hy hB HU HMK gK
     go_wp2
     go_ret3
     exact ⟨HF.out,hEF⟩
   · have hL1:((L:Int)==1)=false:=by rw [beq_eq_false_iff_ne];omega
     have hW:=Lib.hid (fun W (h:Un W va a) (h':Un W (.slice Ab L cb) b)=>MO W va _ a b q r h h' hla (by omega) (by omega) hq hr)
     clear hq hr hk hge hb hL hla hlb h0
     go_enter Tryz.func67,Tryz.ntmps67
     go_wp2_with (fail)
     refine mY.out.mono ?_
     rintro e w1 ⟨rfl,hB⟩
     replace ha:=U.below (U.dK ha) hB
     replace hb2:=U.below (U.dK hb2) hB
     replace gK:=gK.below hB
     clear hB mY
     go_wp2_with (fail)
     refine (hW.out _ ha hb2).mono ?_
     rintro e w2 ⟨⟨x,y,rfl,hx,hy⟩,hB⟩
     replace gK:=gK.below hB
     have HF:Hid (∃ x' y',Ending.returned (.tuple #[x,y,.int .i64 0]) = .returned (.tuple #[x',y',.int .i64 0])∧Un w2 x' q∧Un w2 y' r):=⟨_,_,rfl,hx,hy⟩
     clear hx hy hB hW ha hb2
     go_wp2
     go_ret3
     exact ⟨HF.out,gK⟩
theorem oZ {w:World} {v:Value} (h:Un w v 0):∃ A c,v = .slice A 0 c:=by
 obtain ⟨A,c,rfl,hc⟩:=U.shape (U.dK h)
 exact ⟨A,c,by rw [bf];rfl⟩
set_option maxRecDepth 100000 in
set_option maxHeartbeats 8000000 in
theorem iI (w:World) (va vb:Value) (a b q r:Nat) (ha:Un w va a) (hb:Un w vb b) (hla:(limbs a).length≤1000) (hlb:(limbs b).length≤1000) (h0:b≠0) (hq:a/b=q) (hr:a%b=r) :
  Calls Tryz.prog 18 #[va,vb] w fun e w'=>Dv w w' e q r:=by
 have hS:=Lib.hid (zO w va vb a b q r ha hb hla hlb h0 hq hr)
 unfold Dv at *
 obtain ⟨Aa,ca,rfl,hca⟩:=U.shape (U.dK ha)
 obtain ⟨Ab,cb,rfl,hcb⟩:=U.shape (U.dK hb)
 clear ha hb hq hr h0
 generalize (limbs a).length=la at *
 generalize (limbs b).length=lb_ at *
 obtain ⟨d,hd⟩:∃ d:Int,(la:Int)-(lb_:Int)=d:=⟨_,rfl⟩
 obtain ⟨mn,hmn⟩:∃ mn:Int,(if d<(lb_:Int) then d else (lb_:Int))=mn:=⟨_,rfl⟩
 have hm1:decide ((1600:Int)≤mn)=false:=by rw [decide_eq_false_iff_not];split at hmn<;>omega
 have hm2:¬ (1600:Int)≤mn:=by split at hmn<;>omega
 have HA:=Lib.hid hca
 clear hca hcb
 go_enter Tryz.func18,Tryz.ntmps18
 go_wp2_with (fail)
 refine hS.out.mono ?_
 rintro e w1 ⟨⟨x,y,rfl,hx,hy⟩,hB⟩
 have HF:Hid (∃ x' y',Ending.returned (.tuple #[x,y,.int .i64 0]) = .returned (.tuple #[x',y',.int .i64 0])∧Un w1 x' q∧Un w1 y' r):=⟨_,_,rfl,hx,hy⟩
 clear hx hy hS
 go_wp2
 go_ret3
 exact ⟨HF.out,hB⟩
set_option maxRecDepth 100000 in
set_option maxHeartbeats 8000000 in
theorem Ce (w:World) (va vb:Value) (a b q r:Nat) (ha:Un w va a) (hb:Un w vb b) (hla:(limbs a).length≤1000) (hlb:(limbs b).length≤700) (h0:b≠0) (hq:a/b=q) (hr:a%b=r) :
  Calls Tryz.prog 19 #[va,vb] w fun e w'=>Dv w w' e q r:=by
 have hS:=Lib.hid (zO w va vb a b q r ha hb hla (by omega) h0 hq hr)
 unfold Dv at *
 obtain ⟨Ab,cb,rfl,hcb⟩:=U.shape (U.dK hb)
 clear ha hb hq hr h0
 generalize (limbs b).length=lb_ at *
 have hm1:decide ((lb_:Int)<800)=true:=by rw [decide_eq_true_iff];omega
 clear hcb
 go_enter Tryz.func19,Tryz.ntmps19
 go_wp2_with (fail)
 refine hS.out.mono ?_
 rintro e w1 ⟨⟨x,y,rfl,hx,hy⟩,hB⟩
 have HF:Hid (∃ x' y',Ending.returned (.tuple #[x,y,.int .i64 0]) = .returned (.tuple #[x',y',.int .i64 0])∧Un w1 x' q∧Un w1 y' r):=⟨_,_,rfl,hx,hy⟩
 clear hx hy hS
 go_wp2
 go_ret3
 exact ⟨HF.out,hB⟩
theorem mulN (w:World) (va vb:Value) (n m k:Nat) (ha:Un w va n) (hb:Un w vb m) (hn:(limbs n).length≤398) (hm:(limbs m).length≤398) (hk:n*m=k) :
  Calls Tryz.prog 17 #[va,vb] w fun e w'=>∃ u,e = .returned u∧Un w' u k∧Ext w w':=by
 refine (PE w va vb _ _ ha hb (by omega) (by omega) (by omega)).mono ?_
 rw [aO,aO,hk]
 rintro e w' ⟨⟨u,h1,h2⟩,h3⟩
 exact ⟨u,h1,h2,h3⟩
end Go.Proofs.YtfhcmggpojhegaaGreatDoor
/- Reciprocals by a step; Newton's division; reciprocals told. -/
namespace Go.Proofs.YtfhcmggpojhegaaGreatDoor
open Go.RowKit
set_option linter.unusedVariables false
set_option maxHeartbeats 400000
theorem mul_two {a b m n:Nat} (ha:a≤2^m) (hb:b≤2^n):a*b≤2^(m+n):=by
 rw [Nat.pow_add];exact Nat.mul_le_mul ha hb
end Go.Proofs.YtfhcmggpojhegaaGreatDoor
/- The arguments of the laws of products. -/
namespace Go.Proofs.YtfhcmggpojhegaaGreatDoor
open Go.ChangeShapes Go.WideShapes Go.ChangeAt Go.RowKit
set_option linter.unusedVariables false
set_option maxRecDepth 100000
set_option maxHeartbeats 400000
def Bx2 (w:World) (B:Nat) (va vb:Value):Prop:=B<w.heap.size∧w.cell? ⟨B,0,none⟩=some va∧w.cell? ⟨B,1,none⟩=some vb
theorem Bx2.new (w:World) (A A2:Option Addr) (la ca lb cb:Nat):Bx2 (w.alloc (.cells #[.slice A la ca,.slice A2 lb cb] 23)) w.heap.size (.slice A la ca) (.slice A2 lb cb):=⟨by simp,by go_simp,by go_simp⟩
def Ltl (n k:Nat):Prop:=n<LB^k
theorem Ltl.le {n m i:Nat} (hn:Ltl n i) (h:m≤n):Ltl m i:=Nat.lt_of_le_of_lt h hn
end Go.Proofs.YtfhcmggpojhegaaGreatDoor
