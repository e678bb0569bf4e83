/- Base. -/
import Derived.Test.YtgcieamfidoaoaaGreatDoorGam
import Derived.Shelf.Spec.BitsCarry
set_option linter.all false
set_option maxHeartbeats 8000000
namespace Go.Proofs.YtgcieamfidoaoaaGreatDoor
open Go.Proofs.Tryz
open Go.RowKit
section
set_option maxRecDepth 100000
attribute [local go_sem ↓] pI
attribute [local go_sem] je
theorem iQ (w:World) (v:Value) (xs:List Nat) (h:U w v xs) (hlen:xs.length≤1000000000) :Calls prog 100 #[v] w fun e w'=>(∃ u,e = .returned u∧U w' u (limbs (val xs)))∧Below w.heap.size w w':=by
 have h':=h;obtain ⟨A,c,rfl,⟨hc,hm⟩,hx,hr⟩:=h;go_enter func100,ntmps100;go_wp2;go_loop [3] (fun n=>∃ k:Nat,k≤xs.length∧n = .int .i64 k∧Hid (∀ j,k≤j→j<xs.length→lb xs j=0)) (fun n=>(intOf n).toNat);case atStart=>exact ⟨xs.length,Nat.le_refl _,rfl,fun j h1 h2=>by omega⟩
 case round =>
  obtain ⟨k,hk,rfl,hz⟩:=hrel;have hfin:(0<k→lb xs (k-1)≠0)→∃ v' w',(Builtin.append_ #[24,24] 24 #[.slice (some ⟨w.heap.size,0,none⟩) 0 0,.slice A k c]).run prog (w.alloc (.cells #[] 57)) = .ok v' w'∧U w' v' (limbs (val xs))∧Below w.heap.size w w':=fun h2=>by have hB:Below w.heap.size w (w.alloc (.cells #[] 57)):=(Below.refl _ _).alloc (Nat.le_refl _) _;have hown:Own (w.alloc (.cells #[] 57)) w.heap.size (.slice (some ⟨w.heap.size,0,none⟩) 0 0) []:=World.ownsRow_lit w #[] 0 (Nat.le_refl _) (Nat.zero_le _) rfl;have hu:U w (.slice A k c) (xs.take k):=h'.take hk (by omega);have htl:(xs.take k).length=k:=(by simp;omega);obtain ⟨v',w',hrun,ho,hg⟩:=uR _ w.heap.size _ [] hown _ _ (hu.below hB) (by rw [htl];simp;omega) hB.size;refine ⟨v',w',hrun,?_,hB.grown hg hB.size (fun j e=>by cases e;exact Nat.le_refl _)⟩;rw [wF xs k hx hk hz.out h2];rw [List.nil_append] at ho;exact ho.Ht (fun x hx'=>hx x (List.mem_of_mem_take hx')) (by rw [htl];omega)
  rcases Nat.eq_zero_or_pos k with rfl | h0
  · obtain ⟨v',w',hrun,HU,HB⟩:=hfin (fun h=>absurd h (by omega));obtain ⟨t1,t2,t3⟩:=jW hrun;clear hfin hrun;go_wp2;go_ret;exact ⟨⟨_,rfl,HU⟩,HB⟩
  · obtain ⟨ad,rfl,hb,hcell⟩:=hr (by omega);have hc1:=hcell (k-1) (by omega);by_cases hx0:lb xs (k-1)=0
    · have ht:((((lb xs (k-1):Nat)):Int)==0)=true:=(by rw [hx0];rfl);have HX:=Lib.hid hx0;clear hx0 hfin;go_wp2;go_round
      case rel=>exact ⟨k-1,by omega,by go_num,fun j h1 h2=>by
       rcases Nat.lt_or_ge j k with h3 | h3
       · have:j=k-1:=(by omega);subst this;exact HX.out
       · exact hz.out j h3 h2⟩
      case measure=>simp [intOf];omega
    · have ht:((((lb xs (k-1):Nat)):Int)==0)=false:=(by rw [beq_eq_false_iff_ne];omega);obtain ⟨v',w',hrun,HU,HB⟩:=hfin (fun _=>hx0);obtain ⟨t1,t2,t3⟩:=jW hrun;clear hfin hrun hx0;go_wp2;go_ret;exact ⟨⟨_,rfl,HU⟩,HB⟩
end
theorem U.un {w:World} {v:Value} {xs:List Nat} {n:Nat} (h:U w v xs) (e:limbs n=xs):Un w v n:=by rw [Un,e];exact h
theorem Oa (w:World):Un w (.slice none 0 0) 0:=by rw [Un,bF];exact U.zZ _ _ _
theorem UT (w:World) (v u:Value) (xs ys:List Nat) (h:U w v xs) (g:U w u ys) (b:Bool) (hb:decide (xs=ys)=b) :Calls prog 57 #[v,u] w fun e w'=>e = .returned (.bool b)∧Ext w w' :=
 (Pz w v u xs ys h g).mono fun e w' ⟨he,n,hw⟩=>⟨by rw [he,hb],by rw [hw];exact kI w n⟩
theorem mG (w:World) (v:Value) (xs:List Nat) (h:U w v xs) (b:Bool) (hb:gX xs=b) :Calls prog 43 #[v] w fun e w'=>e = .returned (.bool b)∧Ext w w' :=
 (NI w v xs h).mono fun e w' ⟨he,hw⟩=>⟨by rw [he,hb],by rw [← hw];exact Ext.refl w⟩
theorem Ce (w:World) (v:Value) (xs:List Nat) (h:U w v xs) (n:Nat) (hn:val xs=n) :Calls prog 92 #[v] w fun e w'=>∃ u,e = .returned u∧Un w' u n∧Ext w w' :=
 (mY w v xs h).mono fun e w' ⟨⟨u,he,hu⟩,hw⟩=>⟨u,he,by rw [← hw,Un,← hn];exact hu,by rw [← hw];exact Ext.refl w⟩
theorem of_B (w:World) (k:Int) (h0:0≤k) (h1:k<18446744073709551616) (n:Nat) (hn:k.toNat=n) :A0l 181 #[.int .u64 k] w n:=by subst hn;have:=Tw w k.toNat (by omega);rw [show ((k.toNat:Nat):Int)=k by omega] at this;exact this.mono fun e w' ⟨⟨u,he,hu⟩,hb⟩=>⟨u,he,hu,hb⟩
theorem abb (w:World) (v:Value) (n:Nat) (h:Un w v n) (k:Int) (b:Bool) (hk:((Gi n:Nat):Int)=k) (hb:Bw n=b) :Calls prog 180 #[v] w fun e w'=>e = .returned (.tuple #[.int .u64 k,.bool b])∧Ext w w' :=
 (Tx w v n h).mono fun e w' ⟨he,hw⟩=>⟨by rw [he,hk,hb],by rw [← hw];exact Ext.refl w⟩
theorem EF (w:World) (v:Value) (n:Nat) (h:Un w v n) (hl:(limbs n).length≤1000000000) (k:Int) (hk:((dI n:Nat):Int)=k) :Calls prog 119 #[v] w fun e w'=>e = .returned (.int .i64 k)∧Ext w w' :=
 (PD w v n h hl).mono fun e w' ⟨he,hw⟩=>⟨by rw [he,hk],by rw [← hw];exact Ext.refl w⟩
theorem aaW (w:World) (v:Value) (n:Nat) (i:Int) (h:Un w v n) (hi0 : -9000000000000≤i) (hi1:i≤9000000000000) (k:Int) (hk:((rY n i:Nat):Int)=k) :Calls prog 123 #[v,.int .i64 i] w fun e w'=>e = .returned (.int .u32 k)∧Ext w w' :=
 (Ty w v n i hi0 hi1 h).mono fun e w' ⟨he,hw⟩=>⟨by rw [he,hk],by rw [← hw];exact Ext.refl w⟩
theorem jy (w:World) (v u:Value) (n m:Nat) (h:Un w v n) (g:Un w u m) (k:Int) (hk:dA n m=k) :Calls prog 44 #[v,u] w fun e w'=>e = .returned (.int .i64 k)∧Ext w w' :=
 (C9 w v u n m h g).mono fun e w' ⟨he,hw⟩=>⟨by rw [he,hk],hw⟩
theorem LG (w:World) (v u:Value) (n m:Nat) (h:Un w v n) (g:Un w u m) (hm:(limbs n).length≤1000000000) (hm2:(limbs m).length≤1000000000) (s:Nat) (hs:n+m=s) :A0l 73 #[v,u] w s:=by subst hs;have:=Pw w v u _ _ h g hm hm2;rw [aM,aM] at this;exact this.mono fun e w' ⟨⟨z,he,hz⟩,hb⟩=>⟨z,he,hz,hb⟩
theorem Qd (w:World) (v u:Value) (n m:Nat) (h:Un w v n) (g:Un w u m) (hm:(limbs n).length≤1000000000) (b:Bool) (hb:decide (m≤n)=b) (d:Nat) (hd:n-m=d) :Calls prog 140 #[v,u] w fun e w'=>∃ z,e = .returned (.tuple #[z,.bool b])∧Un w' z d∧Ext w w':=by subst hd hb;exact (Py w v u n m h g hm).mono fun e w' ⟨⟨z,he,hz⟩,hb⟩=>⟨z,he,hz,hb⟩
theorem EG (w:World) (v:Value) (n:Nat) (k:Int) (h:Un w v n) (hk0:0≤k) (hk1:k≤1000000000) (hl:(limbs n).length≤1000000000) (s:Nat) (hs:n*2^k.toNat=s) :A0l 88 #[v,.int .i64 k] w s:=by subst hs;exact (Tz w v n k hk0 hk1 h hl).mono fun e w' ⟨⟨u,he,hu⟩,hb⟩=>⟨u,he,hu,hb⟩
theorem Ud (w:World) (v:Value) (n:Nat) (k:Int) (h:Un w v n) (hk0:0≤k) (hk1:k≤1000000000) (hl:(limbs n).length≤1000000000) (s:Nat) (hs:n/2^k.toNat=s) :A0l 145 #[v,.int .i64 k] w s:=by subst hs;exact (TA w v n k hk0 hk1 h hl).mono fun e w' ⟨⟨u,he,hu⟩,hb⟩=>⟨u,he,hu,hb⟩
theorem wC:(prog.info? 111).map (fun i=>(i.zero,i.size,i.bytes))=some (some (.int .u64 0),1,8):=by kernel_rfl
def V (g:Nat) (w:World) (v:Value) (xs:List Nat):Prop :=
 ∃ (A:Option Addr) (c:Nat),v = .slice A xs.length c∧(xs.length≤c∧xs.length≤9223372036854775807)∧(∀ x∈xs,x<18446744073709551616) ∧
  (0<xs.length→∃ ad,A=some ad∧ad.block<w.heap.size∧ad.block≠g∧∀ j,j<xs.length→w.cell? (ad.add j)=some (.int .u64 (lb xs j:Nat)))
theorem V.lim {g:Nat} {w:World} {v:Value} {xs:List Nat} (h:V g w v xs):∀ x∈xs,x<18446744073709551616:=by obtain ⟨A,c,rfl,hc,hx,hr⟩:=h;exact hx
theorem V.keep {g:Nat} {w w':World} {v:Value} {xs:List Nat} (h:V g w v xs) (hs:w.heap.size≤w'.heap.size) (hk:∀ p:Addr,p.block<w.heap.size→p.block≠g→w'.cell? p=w.cell? p):V g w' v xs:=by obtain ⟨A,c,rfl,hc,hx,hr⟩:=h;refine ⟨A,c,rfl,hc,hx,fun h0=>?_⟩;obtain ⟨ad,hA,hb,hne,hcell⟩:=hr h0;exact ⟨ad,hA,by omega,hne,fun j hj=>(hk _ (by rw [aW];exact hb) (by rw [aW];exact hne)).trans (hcell j hj)⟩
theorem V.below {g:Nat} {w w':World} {v:Value} {xs:List Nat} (h:V g w v xs) (hb:Ext w w'):V g w' v xs:=h.keep hb.size fun _ hp _=>hb.cell hp
theorem V.but {g:Nat} {w w':World} {v:Value} {xs:List Nat} (h:V g w v xs) (hb:But g w w'):V g w' v xs:=h.keep hb.size fun _ hp hn=>hb.cell hp hn
theorem V.new {g g':Nat} {w:World} {v:Value} {xs:List Nat} (h:V g' w v xs) (hg:w.heap.size≤g):V g w v xs:=by obtain ⟨A,c,rfl,hc,hx,hr⟩:=h;refine ⟨A,c,rfl,hc,hx,fun h0=>?_⟩;obtain ⟨ad,hA,hb,hne,hcell⟩:=hr h0;exact ⟨ad,hA,hb,by omega,hcell⟩
theorem V.zZ (g:Nat) (w:World) (A:Option Addr) (c:Nat):V g w (.slice A 0 c) []:=⟨A,c,rfl,⟨Nat.zero_le _,Nat.zero_le _⟩,by simp,fun h=>absurd h (by simp)⟩
theorem V.take {g:Nat} {w:World} {A:Option Addr} {n c:Nat} {xs:List Nat} (h:V g w (.slice A n c) xs) {k c':Nat} (hk:k≤n) (hc':k≤c'):V g w (.slice A k c') (xs.take k):=by
 obtain ⟨A,c,hv,hc,hx,hr⟩:=h;injection hv with h1 h2 h3;subst h1 h2 h3;have hlen:(xs.take k).length=k:=by simp;omega
 refine ⟨_,c',by rw [hlen],by omega,fun x hx'=>hx x (List.mem_of_mem_take hx'),fun h0=>?_⟩;obtain ⟨ad,hA,hb,hne,hcell⟩:=hr (by omega);refine ⟨ad,hA,hb,hne,fun j hj=>?_⟩;rw [hcell j (by omega),kC (by omega)]
theorem V.drop {g:Nat} {w:World} {ad:Addr} {n c:Nat} {xs:List Nat} (h:V g w (.slice (some ad) n c) xs) {k m c':Nat} (hk:k≤n) (hm:n-k=m) (hc':m≤c'):V g w (.slice (some (ad.add k)) m c') (xs.drop k):=by
 obtain ⟨A,c,hv,hc,hx,hr⟩:=h;injection hv with h1 h2 h3;subst h1 h2 h3;have hlen:(xs.drop k).length=m:=by simp;omega
 refine ⟨_,c',by rw [hlen],by omega,fun x hx'=>hx x (List.mem_of_mem_drop hx'),fun h0=>?_⟩;obtain ⟨ahc,hA,hb,hne,hcell⟩:=hr (by omega);injection hA with hA;subst hA;refine ⟨_,rfl,by rw [aW];exact hb,by rw [aW];exact hne,fun j hj=>?_⟩;rw [addr_add_add,hcell (k+j) (by omega),Er]
theorem V.opened {g:Nat} {w:World} {v:Value} {xs:List Nat} (h:V g w v xs) {n:Nat} (hn:xs.length=n) (h0:0<n):∃ ad c,v = .slice (some ad) n c∧n≤c∧ad.block<w.heap.size∧ad.block≠g∧∀ j,j<n→w.cell? (ad.add j)=some (.int .u64 (lb xs j:Nat)):=by subst hn;obtain ⟨A,c,rfl,hc,hx,hr⟩:=h;obtain ⟨ad,rfl,hb,hne,hcell⟩:=hr h0;exact ⟨ad,c,rfl,hc.1,hb,hne,hcell⟩
theorem V.shape {g:Nat} {w:World} {v:Value} {xs:List Nat} (h:V g w v xs):∃ A c,v = .slice A xs.length c∧xs.length≤c:=by obtain ⟨A,c,rfl,hc,_⟩:=h;exact ⟨A,c,rfl,hc.1⟩
def qy (o:List Nat):List Value:=o.map fun x=>Value.int .u64 (x:Nat)
theorem Qs (o:List Nat) {j:Nat} (h:j<o.length):(qy o)[j]?=some (.int .u64 (lb o j:Nat)):=by unfold qy lb;simp [h]
theorem aaB (a:List Nat) (i x:Nat):qy (a.set i x)=(qy a).set i (.int .u64 (x:Nat)):=by simp [qy,List.map_set]
theorem IV (k:Nat):qy (List.replicate k 0)=List.replicate k (.int .u64 0):=by simp [qy]
def Ow (w:World) (base:Nat) (v:Value) (o:List Nat):Prop:=w.ownsRow base 111 1 v o.length (qy o)
theorem Ow.caps {w:World} {base g n c:Nat} {o:List Nat} (h:Ow w base (.slice (some ⟨g,0,none⟩) n c) o):n=o.length∧n≤c∧c≤maxLen:=by
 rcases h.2 with ⟨h1,_⟩ | ⟨g',cap,cur,h1,hg,hh,h2,h3,h4,h5⟩
 · cases h1
 · injection h1 with e1 e2 e3;subst e2 e3;exact ⟨rfl,h2,h3⟩
theorem Ow.block {w:World} {base g n c:Nat} {o:List Nat} (h:Ow w base (.slice (some ⟨g,0,none⟩) n c) o):base≤g∧g<w.heap.size:=by have h0:w.ownsRow base 111 1 (.slice (some ⟨g,0,none⟩) n c) o.length (qy o):=h;exact h0.lt g rfl
theorem Ow.cell {w:World} {base g n c:Nat} {o:List Nat} (h:Ow w base (.slice (some ⟨g,0,none⟩) n c) o) {j:Nat} (hj:j<n):w.cell? ⟨g,j,none⟩=some (.int .u64 (lb o j:Nat)):=by obtain ⟨e,_,_⟩:=h.caps;subst e;have h0:w.ownsRow base 111 1 (.slice (some ⟨g,0,none⟩) o.length c) o.length (qy o):=h;rw [World.ownsRow.cellAt h0 j (by omega)];exact Qs o hj
theorem Ow.frozen {w:World} {base g n c:Nat} {o:List Nat} (h:Ow w base (.slice (some ⟨g,0,none⟩) n c) o) (j:Nat):w.frozen? ⟨g,j,none⟩=false:=by obtain ⟨e,_,_⟩:=h.caps;subst e;have h0:w.ownsRow base 111 1 (.slice (some ⟨g,0,none⟩) o.length c) o.length (qy o):=h;exact World.ownsRow.frozenAt h0 j
theorem Ow.qU {w:World} {base g n c:Nat} {o:List Nat} (h:Ow w base (.slice (some ⟨g,0,none⟩) n c) o) (j x:Nat):Ow (w.setCell ⟨g,j,none⟩ (.int .u64 (x:Nat))) base (.slice (some ⟨g,0,none⟩) n c) (o.set j x):=by obtain ⟨e,_,_⟩:=h.caps;subst e;have h0:w.ownsRow base 111 1 (.slice (some ⟨g,0,none⟩) o.length c) o.length (qy o):=h;have:=(World.ownsRow.stored h0 j (.int .u64 (x:Nat))).1;unfold Ow;rw [aaB,List.length_set];exact this
theorem Ow.drew {w:World} {base:Nat} {v:Value} {o:List Nat} (h:Ow w base v o):Ow w.drew base v o:=h
theorem Ow.below {w w':World} {base B:Nat} {v:Value} {o:List Nat} (h:Ow w base v o) (hB:Below B w w') (hv:∀ g,v.ownBlock=some g→g<B):Ow w' base v o:=by
 refine ⟨h.1,?_⟩;rcases h.2 with hn | ⟨g,cap,cur,rfl,hb,hgg,rest⟩
 · exact .inl hn
 · refine .inr ⟨g,cap,cur,rfl,hb,?_,rest⟩;rw [hB.block g (hv g rfl)];exact hgg
theorem Ow.ext {w w':World} {base g n c:Nat} {o:List Nat} (h:Ow w base (.slice (some ⟨g,0,none⟩) n c) o) (hB:Ext w w'):Ow w' base (.slice (some ⟨g,0,none⟩) n c) o :=
 h.below hB fun g' e=>by have h2:=h.block.2;have e':g=g':=Option.some.inj e;omega
theorem Ow.but {w w':World} {base g q n c:Nat} {o:List Nat} (h:Ow w base (.slice (some ⟨g,0,none⟩) n c) o) (hb:But q w w') (hne:g≠q):Ow w' base (.slice (some ⟨g,0,none⟩) n c) o:=by
 have hlt:=h.block.2;refine ⟨h.1,?_⟩;rcases h.2 with hn | ⟨q',cap,cur,e,hbq,hgg,rest⟩
 · exact .inl hn
 · injection e with e1 e2 e3;injection e1 with e1;injection e1 with e1;subst e1;refine .inr ⟨g,cap,cur,by rw [e2,e3],hbq,?_,rest⟩;rw [hb.block g hlt (fun e=>hne (by injection e))];exact hgg
theorem Ow.qM {w:World} {base base':Nat} {v:Value} {o:List Nat} (h:Ow w base v o) (hb:base'≤base):Ow w base' v o:=by
 refine ⟨h.1,?_⟩;rcases h.2 with hn | ⟨g,cap,cur,rfl,hg,rest⟩
 · exact .inl hn
 · exact .inr ⟨g,cap,cur,rfl,by omega,rest⟩
theorem Ow.zeros {w:World} {base g:Nat} {n:Nat} (h:w.ownsRow base 111 1 (.slice (some ⟨g,0,none⟩) n n) n (madeCells (Value.int .u64 0).cells (n*1)).toList) :Ow w base (.slice (some ⟨g,0,none⟩) n n) (List.replicate n 0):=by
 have e:(madeCells (Value.int .u64 0).cells (n*1)).toList=qy (List.replicate n 0):=by rw [IV,Nat.mul_one];exact toList_madeCells_one _ _
 rw [e] at h;unfold Ow;rw [List.length_replicate];exact h
theorem Ow.KZ {w:World} {base g n c:Nat} {o:List Nat} (h:Ow w base (.slice (some ⟨g,0,none⟩) n c) o) (hx:∀ x∈o,x<18446744073709551616) (q:Nat) (hq:g≠q):V q w (.slice (some ⟨g,0,none⟩) n c) o:=by obtain ⟨e,h1,h2⟩:=h.caps;subst e;refine ⟨_,c,rfl,⟨h1,by unfold maxLen at h2;omega⟩,hx,fun h0=>⟨_,rfl,h.block.2,hq,fun j hj=>?_⟩⟩;rw [Im];exact h.cell hj
theorem Ext.but {g:Nat} {a b c:World} (h:Ext a b) (k:But g b c) (hg:a.heap.size≤g):Ext a c:=Below.trans h (k.below hg h.size)
theorem u64_or32 (x y z:Nat) (hx:x<4294967296) (hy:y<4294967296) (hz:x+4294967296*y=z):bits .or .u64 (x:Int) ((4294967296*y:Nat):Int)=(z:Int):=by rw [u64_or_nat _ _ (by omega) (by omega),Nat.or_comm,nat_join 32 _ x (Nat.mul_mod_right _ _) hx];omega
structure PkI (xs:List Nat) (m i:Nat) (o:List Nat):Prop where
 len:o.length=m
 at_:∀ j,j<i→lb o j=lb (kQ xs) j
theorem PkI.step {xs:List Nat} {m i:Nat} {o:List Nat} (h:PkI xs m i o) (hi:i<m) (x:Nat) (hx:lb (kQ xs) i=x):PkI xs m (i+1) (o.set i x):=by
 refine ⟨by simp [h.len],fun j hj=>?_⟩;rw [EC _ _ _ _ (by rw [h.len];exact hi)];by_cases e:i=j
 · grind
 · rw [if_neg e];exact h.at_ j (by omega)
theorem PkI.done {xs:List Nat} {m:Nat} {o:List Nat} (h:PkI xs m m o) (hm:(kQ xs).length=m):o=kQ xs :=
 ww (by rw [h.len,hm]) fun j hj=>h.at_ j (by rw [← h.len];exact hj)
set_option maxRecDepth 100000 in
theorem vw (w:World) (v:Value) (xs:List Nat) (h:U w v xs) (hl:xs.length≤1000000) (m:Nat) (hm:(xs.length+1)/2=m) :Calls prog 153 #[v] w fun e w'=>e = .returned (.slice (some ⟨w.heap.size,0,none⟩) m m)∧Ow w' w.heap.size (.slice (some ⟨w.heap.size,0,none⟩) m m) (kQ xs)∧Ext w w':=by
 obtain ⟨A,c,rfl,⟨hc,hmx⟩,hx,hr⟩:=h;obtain ⟨i0,hi,hz0,hz1,hz2⟩:=info_parts wC;obtain ⟨n,hn⟩:∃ n,xs.length=n:=⟨_,rfl⟩;rw [hn] at hc hmx hr hl hm ⊢;have HM:Hid ((kQ xs).length=m):=by rw [Hid,ni,hn];exact hm
 have HN:=Lib.hid hn;have HXL:=Lib.hid (zS xs);have hmi:((n:Int)+1)/2=(m:Int):=by omega
 obtain ⟨q,hq⟩:∃ q,n/2=q:=⟨_,rfl⟩;have hqi:(n:Int)/2=(q:Int):=by omega
 obtain ⟨B,hB⟩:∃ B,w.heap.size=B:=⟨_,rfl⟩;rw [hB];have Hu:=Lib.hid hB;have hm1:m≤1000000:=by omega
 clear hn;go_enter func153,ntmps153;go_wp2_with (at_make;refine wpList_make_full _ rfl _ _ 145 rfl w.heap.size 111 i0 (.int .u64 0) 1 underlying145 hi hz0 hz1 _ _ _ _ m rfl rfl (by omega) (by omega) (by rw [hz2];omega) (by unfold maxLen;omega) (Nat.le_refl _) ?_;intro w1 hown hgrow);have ho0:=Ow.zeros hown;have hE0:Ext w w1:=(Ext.refl w).grown hgrow (Nat.le_refl _) (fun _ h=>by cases h);rw [hB] at ho0;clear hown hgrow hi hz0 hz1 hz2 i0;go_wp2;go_loopw [13] (fun t wr=>∃ (i:Nat) (o:List Nat),i≤q∧t = .int .i64 (i:Nat)∧Hid (PkI xs m i o)∧Ow wr B (.slice (some ⟨B,0,none⟩) m m) o∧Ext w wr) (fun t _=>q-(intOf t).toNat);case atStart=>exact ⟨0,_,Nat.zero_le _,rfl,⟨by simp,fun j hj=>absurd hj (by omega)⟩,ho0,hE0⟩
 case round =>
  clear ho0 hE0;obtain ⟨i,o,hiq,rfl,HO,hown,hE⟩:=hrel;by_cases hlt:i<q
  · obtain ⟨ad,rfl,hb,hcell⟩:=hr (by omega);have hc0:=(hE.cell (p:=ad.add (2*i)) (by rw [aW];exact hb)).trans (hcell (2*i) (by omega));have hc1:=(hE.cell (p:=ad.add (2*i+1)) (by rw [aW];exact hb)).trans (hcell (2*i+1) (by omega));rw [ZE _ (2*i+1) (by omega)] at hc1;have hb0:=fD hx (2*i);have hb1:=fD hx (2*i+1);have hz:=HXL.out i;obtain ⟨x,hx0⟩:∃ x,lb xs (2*i)=x:=⟨_,rfl⟩;obtain ⟨y,hy0⟩:∃ y,lb xs (2*i+1)=y:=⟨_,rfl⟩;rw [hx0] at hc0 hb0 hz;rw [hy0] at hc1 hb1 hz;obtain ⟨z,hzz⟩:∃ z,x+4294967296*y=z:=⟨_,rfl⟩;rw [hzz] at hz;have hor:=u64_or32 x y z hb0 hb1 hzz;have hyi:(y:Int)*4294967296=((4294967296*y:Nat):Int):=(by omega);have hyw:IntKind.u64.wrap ((4294967296*y:Nat):Int)=((4294967296*y:Nat):Int):=(by rw [IntKind.wrap_u64];omega);have hym:((4294967296*y:Nat):Int)%18446744073709551616=((4294967296*y:Nat):Int):=(by omega);have hxw:IntKind.u64.wrap (x:Int)=(x:Int):=(by rw [IntKind.wrap_u64];omega);have aok:IntKind.u64.wrap (y:Int)=(y:Int):=(by rw [IntKind.wrap_u64];omega);have hf:=hown.frozen i;have hcz:=hown.cell (j:=i) (by omega);have hown2:=hown.qU i z;have hE2:=hE.setCell (p:=⟨B,i,none⟩) (by rw [hB];exact Nat.le_refl _) (.int .u64 (z:Nat));have HST:Hid (PkI xs m (i+1) (o.set i z)):=HO.out.step (by omega) z hz;generalize 4294967296*y=y2 at *;have h2a:(0:Int)≤2*(i:Int):=(by omega);have h2b:2*(i:Int)<(n:Int):=(by omega);have h2c:2*(i:Int)+1<(n:Int):=(by omega);have h2d:(2*(i:Int)).toNat=2*i:=(by omega);have h2e:(2*(i:Int)+1).toNat=2*i+1:=(by omega);have h2f:(i:Int)<(m:Int):=(by omega);have hbn:(ad.add (2*i)).block≠B:=(by rw [aW];omega);have aol:ad.block≠B:=(by omega);clear hx0 hy0 hz hzz hb0 hb1 hown HO hE;go_wp2;go_region
    all_goals
     go_wp2;go_roundw;case rel=>exact ⟨i+1,_,by omega,by go_num,HST,hown2.drew,hE2.drew⟩
     case measure=>simp [intOf];omega
  · obtain rfl:i=q:=(by omega);by_cases hodd:n%2=1
    · have hmm:m=i+1:=(by omega);have hm2:(n:Int).tmod 2=1:=(by rw [Int.tmod_eq_emod_of_nonneg (by omega)];omega);have hm3:(n:Int)%2=1:=(by omega);obtain ⟨ad,rfl,hb,hcell⟩:=hr (by omega);have hc0:=(hE.cell (p:=ad.add (2*i)) (by rw [aW];exact hb)).trans (hcell (2*i) (by omega));have hz:=HXL.out i;rw [qV (o:=xs) (j:=2*i+1) (by rw [HN.out];omega),Nat.mul_zero,Nat.add_zero] at hz;have hb0:=fD hx (2*i);obtain ⟨x,hx0⟩:∃ x,lb xs (2*i)=x:=⟨_,rfl⟩;rw [hx0] at hc0 hb0 hz;have hxw:IntKind.u64.wrap (x:Int)=(x:Int):=(by rw [IntKind.wrap_u64];omega);have hf:=hown.frozen i;have hcz:=hown.cell (j:=i) (by omega);have hown2:=hown.qU i x;have hE2:=hE.setCell (p:=⟨B,i,none⟩) (by rw [hB];exact Nat.le_refl _) (.int .u64 (x:Nat));have HST:Hid (PkI xs m (i+1) (o.set i x)):=HO.out.step (by omega) x hz;rw [← hmm] at HST;have hdone:=HST.out.done HM.out;rw [hdone] at hown2;have e1:(n:Int)-1=((2*i:Nat):Int):=(by omega);have e2:(m:Int)-1=(i:Int):=(by omega);have e3:2*i<n:=(by omega);have e4:i<m:=(by omega);clear hx0 hz hb0 hown HO hE hdone HST;go_wp2;go_ret;exact ⟨rfl,hown2,hE2⟩
    · have hmm:m=i:=(by omega);have hm2:(n:Int).tmod 2=0:=(by rw [Int.tmod_eq_emod_of_nonneg (by omega)];omega);have hm3:(n:Int)%2=0:=(by omega);subst hmm;have hdone:=HO.out.done HM.out;rw [hdone] at hown;clear hdone HO;go_wp2;go_ret;exact ⟨rfl,hown,hE⟩
theorem BQ (w:World) (v:Value) (xs:List Nat) (h:U w v xs) :Calls prog 154 #[v] w fun e w'=>(∃ u,e = .returned u∧Un w u (val xs))∧w=w':=by
 have h':=h;obtain ⟨A,c,rfl,⟨hc,hm⟩,hx,hr⟩:=h;go_wp2;go_loop [3] (fun n=>∃ k:Nat,k≤xs.length∧n = .int .i64 k∧Hid (∀ j,k≤j→j<xs.length→lb xs j=0)) (fun n=>(intOf n).toNat);case atStart=>exact ⟨xs.length,Nat.le_refl _,rfl,fun j h1 h2=>by omega⟩
 case round =>
  obtain ⟨k,hk,rfl,hz⟩:=hrel;have hfin:∀ c',k≤c'→(0<k→lb xs (k-1)≠0)→Un w (.slice A k c') (val xs):=fun c' h1 h2=>by unfold Un;rw [wF xs k hx hk hz.out h2];exact h'.take hk h1
  rcases Nat.eq_zero_or_pos k with rfl | h0
  · have HF:=Lib.hid (hfin 0 (Nat.le_refl _) (fun h=>absurd h (by omega)));clear hfin;go_wp2;go_ways;go_ret;exact ⟨⟨_,rfl,HF.out⟩,rfl⟩
  · obtain ⟨ad,rfl,hb,hcell⟩:=hr (by omega);have hc1:=hcell (k-1) (by omega);by_cases hx0:lb xs (k-1)=0
    · have ht:((((lb xs (k-1):Nat)):Int)==0)=true:=(by rw [hx0];rfl);have HX:=Lib.hid hx0;clear hx0;go_wp2;go_round
      case rel=>exact ⟨k-1,by omega,by go_num,fun j h1 h2=>by
       rcases Nat.lt_or_ge j k with h3 | h3
       · have:j=k-1:=(by omega);subst this;exact HX.out
       · exact hz.out j h3 h2⟩
      case measure=>simp [intOf];omega
    · have ht:((((lb xs (k-1):Nat)):Int)==0)=false:=(by rw [beq_eq_false_iff_ne];omega);have HF:=Lib.hid (hfin k (Nat.le_refl _) (fun _=>hx0));clear hfin hx0;go_wp2;go_ret;exact ⟨⟨_,rfl,HF.out⟩,rfl⟩
structure Yv (ws:List Nat) (m i:Nat) (o:List Nat):Prop where
 len:o.length=m
 at_:∀ j,j<2*i→lb o j=lb (iD ws) j
theorem Yv.step {ws:List Nat} {m i:Nat} {o:List Nat} (h:Yv ws m i o) (hi:2*i+1<m) (x:Nat) (hx:lb ws i=x):Yv ws m (i+1) ((o.set (2*i) (x%4294967296)).set (2*i+1) (x/4294967296)):=by
 refine ⟨by simp [h.len],fun j hj=>?_⟩;have hu:=Pm ws i;rw [EC _ _ _ _ (by rw [List.length_set,h.len];exact hi),EC _ _ _ _ (by rw [h.len];omega)];by_cases e:2*i+1=j
 · grind
 · rw [if_neg e];by_cases e2:2*i=j
   · grind
   · rw [if_neg e2];exact h.at_ j (by omega)
theorem Yv.done {ws:List Nat} {m i:Nat} {o:List Nat} (h:Yv ws m i o) (hm:(iD ws).length=m) (hi:2*i=m):o=iD ws :=
 ww (by rw [h.len,hm]) fun j hj=>h.at_ j (by rw [hi,← h.len];exact hj)
set_option maxRecDepth 100000 in
theorem Br (w:World) (g0:Nat) (v:Value) (ws:List Nat) (h:V g0 w v ws) (hl:ws.length≤1000000) :Calls prog 151 #[v] w fun e w'=>(∃ u,e = .returned u∧Un w' u (bI ws))∧Ext w w':=by
 obtain ⟨A,c,rfl,⟨hc,hmx⟩,hx,hr⟩:=h;obtain ⟨i0,hi,hz0,hz1,hz2⟩:=info_parts sS;obtain ⟨n,hn⟩:∃ n,ws.length=n:=⟨_,rfl⟩;rw [hn] at hc hmx hr hl ⊢;obtain ⟨m,hm⟩:∃ m,2*n=m:=⟨_,rfl⟩;have HM:Hid ((iD ws).length=m):=by rw [Hid,De,hn];exact hm
 have hmi:(2:Int)*(n:Int)=(m:Int):=by omega
 obtain ⟨B,hB⟩:∃ B,w.heap.size=B:=⟨_,rfl⟩;have hm1:m≤2000000:=by omega
 have HW:=Lib.hid (EE ws hx);have HV:=Lib.hid (Df ws);have HTR:=Lib.hid (fun W v h=>BQ W v (iD ws) h);clear hn;go_enter func151,ntmps151;go_wp2_with (at_make;refine wpList_make_full _ rfl _ _ 24 rfl w.heap.size 57 i0 (.int .u32 0) 1 underlying24 hi hz0 hz1 _ _ _ _ m rfl rfl (by omega) (by omega) (by rw [hz2];omega) (by unfold maxLen;omega) (Nat.le_refl _) ?_;intro w1 hown hgrow);have ho0:Own w1 w.heap.size (.slice (some ⟨w.heap.size,0,none⟩) m m) (List.replicate m 0):=by have:=Own.zeros hown;rwa [List.length_replicate] at this
 have hE0:Ext w w1:=(Ext.refl w).grown hgrow (Nat.le_refl _) (fun _ h=>by cases h);rw [hB] at ho0;clear hown hgrow hi hz0 hz1 hz2 i0;go_wp2;go_loopw [12] (fun t wr=>∃ (i:Nat) (o:List Nat),i≤n∧t = .int .i64 (i:Nat)∧Hid (Yv ws m i o)∧Own wr B (.slice (some ⟨B,0,none⟩) m m) o∧Ext w wr) (fun t _=>n-(intOf t).toNat);case atStart=>exact ⟨0,_,Nat.zero_le _,rfl,⟨by simp,fun j hj=>absurd hj (by omega)⟩,ho0,hE0⟩
 case round =>
  clear ho0 hE0;obtain ⟨i,o,hiq,rfl,HO,hown,hE⟩:=hrel;by_cases hlt:i<n
  · obtain ⟨ad,rfl,hb,hne,hcell⟩:=hr (by omega);have hc0:=(hE.cell (p:=ad.add i) (by rw [aW];exact hb)).trans (hcell i hlt);have hb0:lb ws i<18446744073709551616:=gD (by decide) hx i;obtain ⟨x,hx0⟩:∃ x,lb ws i=x:=⟨_,rfl⟩;rw [hx0] at hc0 hb0;have HST:Hid (Yv ws m (i+1) ((o.set (2*i) (x%4294967296)).set (2*i+1) (x/4294967296))):=HO.out.step (by omega) x hx0;have hol:=HO.out.len;have hf0:=hown.frozen' (2*i);have hf1:=hown.frozen' (2*i+1);have hk0:=hown.rd.2 (2*i) (by omega);have hk1:=hown.rd.2 (2*i+1) (by omega);have hown2:=(hown.set' (2*i) (x%4294967296)).set' (2*i+1) (x/4294967296);have hE2:=(hE.setCell (p:=⟨B,2*i,none⟩) (by rw [hB];exact Nat.le_refl _) (.int .u32 (x%4294967296:Nat))).setCell (p:=⟨B,2*i+1,none⟩) (by rw [hB];exact Nat.le_refl _) (.int .u32 (x/4294967296:Nat));obtain ⟨x0,Ua⟩:∃ x0,x%4294967296=x0:=⟨_,rfl⟩;obtain ⟨x1,Ub⟩:∃ x1,x/4294967296=x1:=⟨_,rfl⟩;rw [Ua,Ub] at HST hown2 hE2;have f0:IntKind.u32.wrap (x:Int)=(x0:Int):=(by rw [IntKind.wrap_u32];omega);have f00:(x:Int)%4294967296=(x0:Int):=(by omega);have f1:(x:Int)/4294967296=(x1:Int):=(by omega);have Yw:x1<4294967296:=(by omega);have f2:IntKind.u32.wrap (x1:Int)=(x1:Int):=(by rw [IntKind.wrap_u32];omega);have f3:(x1:Int)%4294967296=(x1:Int):=(by omega);have h2a:(0:Int)≤2*(i:Int):=(by omega);have h2b:2*(i:Int)<(m:Int):=(by omega);have h2c:2*(i:Int)+1<(m:Int):=(by omega);have h2d:(2*(i:Int)).toNat=2*i:=(by omega);have h2e:(2*(i:Int)+1).toNat=2*i+1:=(by omega);have hbn:(ad.add i).block≠B:=(by rw [aW];omega);clear hx0 hb0 Ua Ub hown HO hE hol;go_wp2;go_roundw;case rel=>exact ⟨i+1,_,by omega,by go_num,HST,hown2,hE2⟩
    case measure=>simp [intOf];omega
  · obtain rfl:i=n:=(by omega);have hdone:=HO.out.done HM.out hm;rw [hdone] at hown;have hu:=hown.Ht HW.out (by rw [HM.out];omega);clear hdone HO hown;go_wp2_with (fail);refine (HTR.out _ _ hu).mono ?_;rintro e w2 ⟨⟨u,rfl,hu2⟩,rfl⟩;rw [HV.out] at hu2;have HF:Hid (∃ u',Ending.returned u = .returned u'∧Un wr u' (bI ws)):=⟨_,rfl,hu2⟩;clear hu2 hu;go_wp2;go_ret;exact ⟨HF.out,hE⟩
theorem wB (x y c s d:Nat) (hc:c≤1) (hs:(x+y+c)%18446744073709551616=s) (hd:(x+y+c)/18446744073709551616=d) (w:World) :(callFunc 172 #[.int .u64 (x:Nat),.int .u64 (y:Nat),.int .u64 (c:Nat)]).run prog w = .ok (.value (.tuple #[.int .u64 (s:Nat),.int .u64 (d:Nat)])) w:=by rw [run_callFunc_extern func172 (by kernel_rfl) (by kernel_rfl) (by kernel_rfl) (e:=add64Entry) (by kernel_rfl),run_add64 x y c (by omega) (by omega) (by omega) (by omega),← hs,← hd];congr 5<;>omega
theorem zV (x y b s d:Nat) (hb:b≤1) (hs:(x+18446744073709551616-y-b)%18446744073709551616=s) (hd:(if x<y+b then 1 else 0)=d) (w:World) :(callFunc 227 #[.int .u64 (x:Nat),.int .u64 (y:Nat),.int .u64 (b:Nat)]).run prog w = .ok (.value (.tuple #[.int .u64 (s:Nat),.int .u64 (d:Nat)])) w:=by rw [run_callFunc_extern func227 (by kernel_rfl) (by kernel_rfl) (by kernel_rfl) (e:=sub64Entry) (by kernel_rfl),run_sub64 x y b hb,hs,hd];rfl
structure NV (n off:Nat) (A:Nat) (i:Nat) (o:List Nat) (cy:Nat):Prop where
 len:o.length=n
 lt:∀ x∈o,x<18446744073709551616
 Ec:cy≤1
 val:bI o+BB^(off+i)*cy=A
theorem NV.step {n off A i:Nat} {o:List Nat} {cy:Nat} (h:NV n off A i o cy) (hi:off+i<n) (y s d:Nat) (hy:y<18446744073709551616) (hs:(lb o (off+i)+y+cy)%18446744073709551616=s) (hd:(lb o (off+i)+y+cy)/18446744073709551616=d):NV n off (A+BB^(off+i)*y) (i+1) (o.set (off+i) s) d:=by have hx:lb o (off+i)<18446744073709551616:=gD (by decide) h.lt _;have h1:=h.Ec;refine ⟨by simp [h.len],ko h.lt (by omega),by omega,?_⟩;exact Jo _ _ _ _ _ _ _ _ _ (qA o (off+i) s (by rw [h.len];exact hi)) h.val (by unfold BB;omega)
structure Vl (n off:Nat) (A T:Nat) (i:Nat) (o:List Nat) (cy:Nat):Prop where
 len:o.length=n
 lt:∀ x∈o,x<18446744073709551616
 Ec:cy≤1
 val:bI o+T=A+BB^(off+i)*cy
theorem Vl.step {n off A T i:Nat} {o:List Nat} {cy:Nat} (h:Vl n off A T i o cy) (hi:off+i<n) (y s d:Nat) (hy:y<18446744073709551616) (hs:(lb o (off+i)+18446744073709551616-y-cy)%18446744073709551616=s) (hd:(if lb o (off+i)<y+cy then 1 else 0)=d):Vl n off A (T+BB^(off+i)*y) (i+1) (o.set (off+i) s) d:=by
 have hx:lb o (off+i)<18446744073709551616:=gD (by decide) h.lt _;have h1:=h.Ec;have hd1:d≤1:=by rw [← hd];split<;>omega
 refine ⟨by simp [h.len],ko h.lt (by omega),hd1,?_⟩;refine Iw _ _ _ _ _ _ _ _ _ _ (qA o (off+i) s (by rw [h.len];exact hi)) h.val ?_;unfold BB;grind
