/- The document's own Make and Made. -/
import Derived.Test.YtgcieamfidoaoaaGreatDoorEaj
import Derived.Test.YtgcieamfidoaoaaGreatDoorEal
import Derived.Test.YtgcieamfidoaoaaGreatDoorEam
import Derived.Test.YtgcieamfidoaoaaGreatDoorEai
import Derived.Laws.Externs
import Derived.Shelf.Spec.BitsCarry
set_option linter.all false
set_option maxHeartbeats 8000000
namespace Go.Proofs.YtgcieamfidoaoaaGreatDoor
open Go.RowKit
set_option maxRecDepth 100000
attribute [local go_sem ↓] oL
attribute [local go_sem] iy
theorem dZ (w:World) (v:Value) (xs:List Nat) (h:U w v xs) (hlen:xs.length≤1000000000) :
  Calls Tryz.prog 100 #[v] w fun e w'=>(∃ u,e = .returned u∧U w' u (limbs (val xs)))∧Below w.heap.size w w':=by
 have h':=h
 obtain ⟨A,c,rfl,⟨hc,hm⟩,hx,hr⟩:=h
 go_enter Tryz.func100,Tryz.ntmps100
 go_wp2
 go_loop [3] (fun n=>∃ k:Nat,k≤xs.length∧n = .int .i64 k∧Hid (∀ j,k≤j→j<xs.length→lb xs j=0)) (fun n=>(intOf n).toNat)
 case atStart=>exact ⟨xs.length,Nat.le_refl _,rfl,fun j h1 h2=>by omega⟩
 case round =>
  obtain ⟨k,hk,rfl,hz⟩:=hrel
  have hfin:(0<k→lb xs (k-1)≠0)→∃ v' w',(Builtin.append_ #[24,24] 24 #[.slice (some ⟨w.heap.size,0,none⟩) 0 0,.slice A k c]).run Tryz.prog (w.alloc (.cells #[] 57)) = .ok v' w'∧U w' v' (limbs (val xs))∧Below w.heap.size w w':=fun h2=>by
   have hB:Below w.heap.size w (w.alloc (.cells #[] 57)):=(Below.refl _ _).alloc (Nat.le_refl _) _
   have hown:Own (w.alloc (.cells #[] 57)) w.heap.size (.slice (some ⟨w.heap.size,0,none⟩) 0 0) []:=World.ownsRow_lit w #[] 0 (Nat.le_refl _) (Nat.zero_le _) rfl
   have hu:U w (.slice A k c) (xs.take k):=h'.take hk (by omega)
   have htl:(xs.take k).length=k:=by simp;omega
   obtain ⟨v',w',hrun,ho,hg⟩:=qW _ w.heap.size _ [] hown _ _ (hu.below hB) (by rw [htl];simp;omega) hB.size
   refine ⟨v',w',hrun,?_,hB.grown hg hB.size (fun j e=>by cases e;exact Nat.le_refl _)⟩
   rw [xx xs k hx hk hz.out h2]
   rw [List.nil_append] at ho
   exact ho.BJ (fun x hx'=>hx x (List.mem_of_mem_take hx')) (by rw [htl];omega)
  rcases Nat.eq_zero_or_pos k with rfl | h0
  · obtain ⟨v',w',hrun,HU,HB⟩:=hfin (fun h=>absurd h (by omega))
    obtain ⟨t1,t2,t3⟩:=jc hrun
    clear hfin hrun
    go_wp2
    go_ret
    exact ⟨⟨_,rfl,HU⟩,HB⟩
  · obtain ⟨ad,rfl,hb,hcell⟩:=hr (by omega)
    have hc1:=hcell (k-1) (by omega)
    by_cases hx0:lb xs (k-1)=0
    · have ht:((((lb xs (k-1):Nat)):Int)==0)=true:=by rw [hx0];rfl
      have HX:=Lib.hid hx0
      clear hx0 hfin
      go_wp2
      go_round
      case rel=>exact ⟨k-1,by omega,by go_num,fun j h1 h2=>by
       rcases Nat.lt_or_ge j k with h3 | h3
       · have:j=k-1:=by omega
         subst this;exact HX.out
       · exact hz.out j h3 h2⟩
      case measure=>simp [intOf];omega
    · have ht:((((lb xs (k-1):Nat)):Int)==0)=false:=by rw [beq_eq_false_iff_ne];omega
      obtain ⟨v',w',hrun,HU,HB⟩:=hfin (fun _=>hx0)
      obtain ⟨t1,t2,t3⟩:=jc hrun
      clear hfin hrun hx0
      go_wp2
      go_ret
      exact ⟨⟨_,rfl,HU⟩,HB⟩
end Go.Proofs.YtgcieamfidoaoaaGreatDoor
/- The contracts in one form: whatever lay lies as it lay; the results as the callers ask for them. -/
namespace Go.Proofs.YtgcieamfidoaoaaGreatDoor
open Go.RowKit
theorem U.un {w:World} {v:Value} {xs:List Nat} {n:Nat} (h:U w v xs) (e:limbs n=xs):Un w v n:=by rw [Un,e];exact h
theorem J3 (w:World):Un w (.slice none 0 0) 0:=by rw [Un,aX];exact U.yX _ _ _
theorem Yx (w:World) (v u:Value) (xs ys:List Nat) (h:U w v xs) (g:U w u ys) (b:Bool) (hb:decide (xs=ys)=b) :
  Calls Tryz.prog 57 #[v,u] w fun e w'=>e = .returned (.bool b)∧Ext w w' :=
 (Lp w v u xs ys h g).mono fun e w' ⟨he,n,hw⟩=>⟨by rw [he,hb],by rw [hw];exact iF w n⟩
theorem Bj (w:World) (v:Value) (xs:List Nat) (h:U w v xs) (b:Bool) (hb:fG xs=b) :
  Calls Tryz.prog 43 #[v] w fun e w'=>e = .returned (.bool b)∧Ext w w' :=
 (JJ w v xs h).mono fun e w' ⟨he,hw⟩=>⟨by rw [he,hb],by rw [← hw];exact Ext.refl w⟩
theorem yV (w:World) (v:Value) (xs:List Nat) (h:U w v xs) (n:Nat) (hn:val xs=n) :
  Calls Tryz.prog 92 #[v] w fun e w'=>∃ u,e = .returned u∧Un w' u n∧Ext w w' :=
 (lF w v xs h).mono fun e w' ⟨⟨u,he,hu⟩,hw⟩=>⟨u,he,by rw [← hw,Un,← hn];exact hu,by rw [← hw];exact Ext.refl w⟩
theorem of_B (w:World) (k:Int) (h0:0≤k) (h1:k<18446744073709551616) (n:Nat) (hn:k.toNat=n) :
  Calls Tryz.prog 181 #[.int .u64 k] w fun e w'=>∃ u,e = .returned u∧Un w' u n∧Ext w w':=by
 subst hn
 have:=Ph w k.toNat (by omega)
 rw [show ((k.toNat:Nat):Int)=k by omega] at this
 exact this.mono fun e w' ⟨⟨u,he,hu⟩,hb⟩=>⟨u,he,hu,hb⟩
theorem WX (w:World) (v:Value) (n:Nat) (h:Un w v n) (k:Int) (b:Bool) (hk:((Cz n:Nat):Int)=k) (hb:yg n=b) :
  Calls Tryz.prog 180 #[v] w fun e w'=>e = .returned (.tuple #[.int .u64 k,.bool b])∧Ext w w' :=
 (Pj w v n h).mono fun e w' ⟨he,hw⟩=>⟨by rw [he,hk,hb],by rw [← hw];exact Ext.refl w⟩
theorem BK (w:World) (v:Value) (n:Nat) (h:Un w v n) (hl:(limbs n).length≤1000000000) (k:Int) (hk:((bJ n:Nat):Int)=k) :
  Calls Tryz.prog 119 #[v] w fun e w'=>e = .returned (.int .i64 k)∧Ext w w' :=
 (Lr w v n h hl).mono fun e w' ⟨he,hw⟩=>⟨by rw [he,hk],by rw [← hw];exact Ext.refl w⟩
theorem Wz (w:World) (v:Value) (n:Nat) (i:Int) (h:Un w v n) (hi0 : -9000000000000≤i) (hi1:i≤9000000000000) (k:Int) (hk:((qp n i:Nat):Int)=k) :
  Calls Tryz.prog 123 #[v,.int .i64 i] w fun e w'=>e = .returned (.int .u32 k)∧Ext w w' :=
 (Pk w v n i hi0 hi1 h).mono fun e w' ⟨he,hw⟩=>⟨by rw [he,hk],by rw [← hw];exact Ext.refl w⟩
theorem jv (w:World) (v u:Value) (n m:Nat) (h:Un w v n) (g:Un w u m) (k:Int) (hk:bN n m=k) :
  Calls Tryz.prog 44 #[v,u] w fun e w'=>e = .returned (.int .i64 k)∧Ext w w' :=
 (zK w v u n m h g).mono fun e w' ⟨he,hw⟩=>⟨by rw [he,hk],hw⟩
theorem Ig (w:World) (v u:Value) (n m:Nat) (h:Un w v n) (g:Un w u m) (hm:(limbs n).length≤1000000000) (hm2:(limbs m).length≤1000000000) (s:Nat) (hs:n+m=s) :
  Calls Tryz.prog 73 #[v,u] w fun e w'=>∃ z,e = .returned z∧Un w' z s∧Ext w w':=by
 subst hs
 have:=Lj w v u _ _ h g hm hm2
 rw [aJ,aJ] at this
 exact this.mono fun e w' ⟨⟨z,he,hz⟩,hb⟩=>⟨z,he,hz,hb⟩
theorem L8 (w:World) (v u:Value) (n m:Nat) (h:Un w v n) (g:Un w u m) (hm:(limbs n).length≤1000000000) (b:Bool) (hb:decide (m≤n)=b) (d:Nat) (hd:n-m=d) :
  Calls Tryz.prog 140 #[v,u] w fun e w'=>∃ z,e = .returned (.tuple #[z,.bool b])∧Un w' z d∧Ext w w':=by
 subst hd hb
 exact (Lm w v u n m h g hm).mono fun e w' ⟨⟨z,he,hz⟩,hb⟩=>⟨z,he,hz,hb⟩
theorem Hr (w:World) (v:Value) (n:Nat) (k:Int) (h:Un w v n) (hk0:0≤k) (hk1:k≤1000000000) (hl:(limbs n).length≤1000000000) (s:Nat) (hs:n*2^k.toNat=s) :
  Calls Tryz.prog 88 #[v,.int .i64 k] w fun e w'=>∃ u,e = .returned u∧Un w' u s∧Ext w w':=by
 subst hs
 exact (Pm w v n k hk0 hk1 h hl).mono fun e w' ⟨⟨u,he,hu⟩,hb⟩=>⟨u,he,hu,hb⟩
theorem PU (w:World) (v:Value) (n:Nat) (k:Int) (h:Un w v n) (hk0:0≤k) (hk1:k≤1000000000) (hl:(limbs n).length≤1000000000) (s:Nat) (hs:n/2^k.toNat=s) :
  Calls Tryz.prog 145 #[v,.int .i64 k] w fun e w'=>∃ u,e = .returned u∧Un w' u s∧Ext w w':=by
 subst hs
 exact (Pn w v n k hk0 hk1 h hl).mono fun e w' ⟨⟨u,he,hu⟩,hb⟩=>⟨u,he,hu,hb⟩
end Go.Proofs.YtgcieamfidoaoaaGreatDoor
/- Slices of 64-bit words: read, and made by the call itself. -/
namespace Go.Proofs.YtgcieamfidoaoaaGreatDoor
open Go.RowKit
theorem EX:(Tryz.prog.info? 111).map (fun i=>(i.zero,i.size,i.bytes))=some (some (.int .u64 0),1,8):=by kernel_rfl
def V (g:Nat) (w:World) (v:Value) (xs:List Nat):Prop :=
 ∃ (A:Option Addr) (c:Nat),v = .slice A xs.length c∧(xs.length≤c∧xs.length≤9223372036854775807)∧(∀ x∈xs,x<18446744073709551616) ∧
  (0<xs.length→∃ ad,A=some ad∧ad.block<w.heap.size∧ad.block≠g∧∀ j,j<xs.length→w.cell? (ad.add j)=some (.int .u64 (lb xs j:Nat)))
theorem V.lim {g:Nat} {w:World} {v:Value} {xs:List Nat} (h:V g w v xs):∀ x∈xs,x<18446744073709551616:=by
 obtain ⟨A,c,rfl,hc,hx,hr⟩:=h;exact hx
theorem V.keep {g:Nat} {w w':World} {v:Value} {xs:List Nat} (h:V g w v xs) (hs:w.heap.size≤w'.heap.size) (hk:∀ p:Addr,p.block<w.heap.size→p.block≠g→w'.cell? p=w.cell? p):V g w' v xs:=by
 obtain ⟨A,c,rfl,hc,hx,hr⟩:=h
 refine ⟨A,c,rfl,hc,hx,fun h0=>?_⟩
 obtain ⟨ad,hA,hb,hne,hcell⟩:=hr h0
 exact ⟨ad,hA,by omega,hne,fun j hj=>(hk _ (by rw [aL];exact hb) (by rw [aL];exact hne)).trans (hcell j hj)⟩
theorem V.below {g:Nat} {w w':World} {v:Value} {xs:List Nat} (h:V g w v xs) (hb:Ext w w'):V g w' v xs:=h.keep hb.size fun _ hp _=>hb.cell hp
theorem V.but {g:Nat} {w w':World} {v:Value} {xs:List Nat} (h:V g w v xs) (hb:But g w w'):V g w' v xs:=h.keep hb.size fun _ hp hn=>hb.cell hp hn
theorem V.new {g g':Nat} {w:World} {v:Value} {xs:List Nat} (h:V g' w v xs) (hg:w.heap.size≤g):V g w v xs:=by
 obtain ⟨A,c,rfl,hc,hx,hr⟩:=h
 refine ⟨A,c,rfl,hc,hx,fun h0=>?_⟩
 obtain ⟨ad,hA,hb,hne,hcell⟩:=hr h0
 exact ⟨ad,hA,hb,by omega,hcell⟩
theorem V.yX (g:Nat) (w:World) (A:Option Addr) (c:Nat):V g w (.slice A 0 c) []:=⟨A,c,rfl,⟨Nat.zero_le _,Nat.zero_le _⟩,by simp,fun h=>absurd h (by simp)⟩
theorem V.take {g:Nat} {w:World} {A:Option Addr} {n c:Nat} {xs:List Nat} (h:V g w (.slice A n c) xs) {k c':Nat} (hk:k≤n) (hc':k≤c'):V g w (.slice A k c') (xs.take k):=by
 obtain ⟨A,c,hv,hc,hx,hr⟩:=h
 injection hv with h1 h2 h3
 subst h1 h2 h3
 have hlen:(xs.take k).length=k:=by simp;omega
 refine ⟨_,c',by rw [hlen],by omega,fun x hx'=>hx x (List.mem_of_mem_take hx'),fun h0=>?_⟩
 obtain ⟨ad,hA,hb,hne,hcell⟩:=hr (by omega)
 refine ⟨ad,hA,hb,hne,fun j hj=>?_⟩
 rw [hcell j (by omega),jH (by omega)]
theorem V.opened {g:Nat} {w:World} {v:Value} {xs:List Nat} (h:V g w v xs) {n:Nat} (hn:xs.length=n) (h0:0<n):∃ ad c,v = .slice (some ad) n c∧n≤c∧ad.block<w.heap.size∧ad.block≠g∧∀ j,j<n→w.cell? (ad.add j)=some (.int .u64 (lb xs j:Nat)):=by
 subst hn
 obtain ⟨A,c,rfl,hc,hx,hr⟩:=h
 obtain ⟨ad,rfl,hb,hne,hcell⟩:=hr h0
 exact ⟨ad,c,rfl,hc.1,hb,hne,hcell⟩
theorem V.shape {g:Nat} {w:World} {v:Value} {xs:List Nat} (h:V g w v xs):∃ A c,v = .slice A xs.length c∧xs.length≤c:=by
 obtain ⟨A,c,rfl,hc,_⟩:=h;exact ⟨A,c,rfl,hc.1⟩
def Pb (o:List Nat):List Value:=o.map fun x=>Value.int .u64 (x:Nat)
theorem V3 (o:List Nat) {j:Nat} (h:j<o.length):(Pb o)[j]?=some (.int .u64 (lb o j:Nat)):=by
 unfold Pb lb;simp [h]
theorem V4 (a:List Nat) (i x:Nat):Pb (a.set i x)=(Pb a).set i (.int .u64 (x:Nat)):=by simp [Pb,List.map_set]
theorem Pd (k:Nat):Pb (List.replicate k 0)=List.replicate k (.int .u64 0):=by simp [Pb]
def Ow (w:World) (base:Nat) (v:Value) (o:List Nat):Prop:=w.ownsRow base 111 1 v o.length (Pb o)
theorem Ow.caps {w:World} {base g n c:Nat} {o:List Nat} (h:Ow w base (.slice (some ⟨g,0,none⟩) n c) o):n=o.length∧n≤c∧c≤maxLen:=by
 rcases h.2 with ⟨h1,_⟩ | ⟨g',cap,cur,h1,hg,hh,h2,h3,h4,h5⟩
 · cases h1
 · injection h1 with e1 e2 e3
   subst e2 e3
   exact ⟨rfl,h2,h3⟩
theorem Ow.block {w:World} {base g n c:Nat} {o:List Nat} (h:Ow w base (.slice (some ⟨g,0,none⟩) n c) o):base≤g∧g<w.heap.size:=by
 have h0:w.ownsRow base 111 1 (.slice (some ⟨g,0,none⟩) n c) o.length (Pb o):=h
 exact h0.lt g rfl
theorem Ow.cell {w:World} {base g n c:Nat} {o:List Nat} (h:Ow w base (.slice (some ⟨g,0,none⟩) n c) o) {j:Nat} (hj:j<n):w.cell? ⟨g,j,none⟩=some (.int .u64 (lb o j:Nat)):=by
 obtain ⟨e,_,_⟩:=h.caps
 subst e
 have h0:w.ownsRow base 111 1 (.slice (some ⟨g,0,none⟩) o.length c) o.length (Pb o):=h
 rw [World.ownsRow.cellAt h0 j (by omega)];exact V3 o hj
theorem Ow.frozen {w:World} {base g n c:Nat} {o:List Nat} (h:Ow w base (.slice (some ⟨g,0,none⟩) n c) o) (j:Nat):w.frozen? ⟨g,j,none⟩=false:=by
 obtain ⟨e,_,_⟩:=h.caps
 subst e
 have h0:w.ownsRow base 111 1 (.slice (some ⟨g,0,none⟩) o.length c) o.length (Pb o):=h
 exact World.ownsRow.frozenAt h0 j
theorem Ow.qO {w:World} {base g n c:Nat} {o:List Nat} (h:Ow w base (.slice (some ⟨g,0,none⟩) n c) o) (j x:Nat):Ow (w.setCell ⟨g,j,none⟩ (.int .u64 (x:Nat))) base (.slice (some ⟨g,0,none⟩) n c) (o.set j x):=by
 obtain ⟨e,_,_⟩:=h.caps
 subst e
 have h0:w.ownsRow base 111 1 (.slice (some ⟨g,0,none⟩) o.length c) o.length (Pb o):=h
 have:=(World.ownsRow.stored h0 j (.int .u64 (x:Nat))).1
 unfold Ow
 rw [V4,List.length_set]
 exact this
theorem Ow.drew {w:World} {base:Nat} {v:Value} {o:List Nat} (h:Ow w base v o):Ow w.drew base v o:=h
theorem Ow.below {w w':World} {base B:Nat} {v:Value} {o:List Nat} (h:Ow w base v o) (hB:Below B w w') (hv:∀ g,v.ownBlock=some g→g<B):Ow w' base v o:=by
 refine ⟨h.1,?_⟩
 rcases h.2 with hn | ⟨g,cap,cur,rfl,hb,hgg,rest⟩
 · exact .inl hn
 · refine .inr ⟨g,cap,cur,rfl,hb,?_,rest⟩
   rw [hB.block g (hv g rfl)]
   exact hgg
theorem Ow.ext {w w':World} {base g n c:Nat} {o:List Nat} (h:Ow w base (.slice (some ⟨g,0,none⟩) n c) o) (hB:Ext w w'):Ow w' base (.slice (some ⟨g,0,none⟩) n c) o :=
 h.below hB fun g' e=>by have h2:=h.block.2;have e':g=g':=Option.some.inj e;omega
theorem Ow.but {w w':World} {base g q n c:Nat} {o:List Nat} (h:Ow w base (.slice (some ⟨g,0,none⟩) n c) o) (hb:But q w w') (hne:g≠q):Ow w' base (.slice (some ⟨g,0,none⟩) n c) o:=by
 have hlt:=h.block.2
 refine ⟨h.1,?_⟩
 rcases h.2 with hn | ⟨q',cap,cur,e,hbq,hgg,rest⟩
 · exact .inl hn
 · injection e with e1 e2 e3
   injection e1 with e1
   injection e1 with e1
   subst e1
   refine .inr ⟨g,cap,cur,by rw [e2,e3],hbq,?_,rest⟩
   rw [hb.block g hlt (fun e=>hne (by injection e))]
   exact hgg
theorem Ow.uG {w:World} {base base':Nat} {v:Value} {o:List Nat} (h:Ow w base v o) (hb:base'≤base):Ow w base' v o:=by
 refine ⟨h.1,?_⟩
 rcases h.2 with hn | ⟨g,cap,cur,rfl,hg,rest⟩
 · exact .inl hn
 · exact .inr ⟨g,cap,cur,rfl,by omega,rest⟩
theorem Ow.zeros {w:World} {base g:Nat} {n:Nat} (h:w.ownsRow base 111 1 (.slice (some ⟨g,0,none⟩) n n) n (madeCells (Value.int .u64 0).cells (n*1)).toList) :
  Ow w base (.slice (some ⟨g,0,none⟩) n n) (List.replicate n 0):=by
 have e:(madeCells (Value.int .u64 0).cells (n*1)).toList=Pb (List.replicate n 0):=by
  rw [Pd,Nat.mul_one];exact toList_madeCells_one _ _
 rw [e] at h
 unfold Ow
 rw [List.length_replicate]
 exact h
theorem Ow.ZX {w:World} {base g n c:Nat} {o:List Nat} (h:Ow w base (.slice (some ⟨g,0,none⟩) n c) o) (hx:∀ x∈o,x<18446744073709551616) (q:Nat) (hq:g≠q):V q w (.slice (some ⟨g,0,none⟩) n c) o:=by
 obtain ⟨e,h1,h2⟩:=h.caps
 subst e
 refine ⟨_,c,rfl,⟨h1,by unfold maxLen at h2;omega⟩,hx,fun h0=>⟨_,rfl,h.block.2,hq,fun j hj=>?_⟩⟩
 rw [D7];exact h.cell hj
theorem Ext.but {g:Nat} {a b c:World} (h:Ext a b) (k:But g b c) (hg:a.heap.size≤g):Ext a c:=Below.trans h (k.below hg h.size)
end Go.Proofs.YtgcieamfidoaoaaGreatDoor
/- Limbs as words, and back. -/
namespace Go.Proofs.YtgcieamfidoaoaaGreatDoor
open Go.RowKit
theorem u64_or32 (x y z:Nat) (hx:x<4294967296) (hy:y<4294967296) (hz:x+4294967296*y=z):bits .or .u64 (x:Int) ((4294967296*y:Nat):Int)=(z:Int):=by
 rw [u64_or_nat _ _ (by omega) (by omega),Nat.or_comm,nat_join 32 _ x (Nat.mul_mod_right _ _) hx]
 omega
structure XD (xs:List Nat) (m i:Nat) (o:List Nat):Prop where
 len:o.length=m
 at_:∀ j,j<i→lb o j=lb (jW xs) j
theorem XD.step {xs:List Nat} {m i:Nat} {o:List Nat} (h:XD xs m i o) (hi:i<m) (x:Nat) (hx:lb (jW xs) i=x):XD xs m (i+1) (o.set i x):=by
 refine ⟨by simp [h.len],fun j hj=>?_⟩
 rw [BA _ _ _ _ (by rw [h.len];exact hi)]
 by_cases e:i=j
 · rw [if_pos e,← e,hx]
 · rw [if_neg e];exact h.at_ j (by omega)
theorem XD.done {xs:List Nat} {m:Nat} {o:List Nat} (h:XD xs m m o) (hm:(jW xs).length=m):o=jW xs :=
 vZ (by rw [h.len,hm]) fun j hj=>h.at_ j (by rw [← h.len];exact hj)
set_option maxRecDepth 100000 in
theorem Dt (w:World) (v:Value) (xs:List Nat) (h:U w v xs) (hl:xs.length≤1000000) (m:Nat) (hm:(xs.length+1)/2=m) :
  Calls Tryz.prog 153 #[v] w fun e w'=>e = .returned (.slice (some ⟨w.heap.size,0,none⟩) m m)∧Ow w' w.heap.size (.slice (some ⟨w.heap.size,0,none⟩) m m) (jW xs)∧Ext w w':=by
 obtain ⟨A,c,rfl,⟨hc,hmx⟩,hx,hr⟩:=h
 obtain ⟨i0,hi,hz0,hz1,hz2⟩:=info_parts EX
 obtain ⟨n,hn⟩:∃ n,xs.length=n:=⟨_,rfl⟩
 rw [hn] at hc hmx hr hl hm ⊢
 have HM:Hid ((jW xs).length=m):=by rw [Hid,oz,hn];exact hm
 have HN:=Lib.hid hn
 have HXL:=Lib.hid (xh xs)
 have ZV:((n:Int)+1)/2=(m:Int):=by omega
 obtain ⟨q,hq⟩:∃ q,n/2=q:=⟨_,rfl⟩
 have hqi:(n:Int)/2=(q:Int):=by omega
 obtain ⟨B,hB⟩:∃ B,w.heap.size=B:=⟨_,rfl⟩
 rw [hB]
 have yM:=Lib.hid hB
 have hm1:m≤1000000:=by omega
 clear hn
 go_enter Tryz.func153,Tryz.ntmps153
 go_wp2_with (at_make;refine wpList_make_full _ rfl _ _ 145 rfl w.heap.size 111 i0 (.int .u64 0) 1 Tryz.underlying145 hi hz0 hz1 _ _ _ _ m rfl rfl (by omega) (by omega) (by rw [hz2];omega) (by unfold maxLen;omega) (Nat.le_refl _) ?_;intro w1 hown hgrow)
 have ho0:=Ow.zeros hown
 have hE0:Ext w w1:=(Ext.refl w).grown hgrow (Nat.le_refl _) (fun _ h=>by cases h)
 rw [hB] at ho0
 clear hown hgrow hi hz0 hz1 hz2 i0
 go_wp2
 go_loopw [13] (fun t wr=>∃ (i:Nat) (o:List Nat),i≤q∧t = .int .i64 (i:Nat)∧Hid (XD xs m i o)∧Ow wr B (.slice (some ⟨B,0,none⟩) m m) o∧Ext w wr) (fun t _=>q-(intOf t).toNat)
 case atStart=>exact ⟨0,_,Nat.zero_le _,rfl,⟨by simp,fun j hj=>absurd hj (by omega)⟩,ho0,hE0⟩
 case round =>
  clear ho0 hE0
  obtain ⟨i,o,hiq,rfl,HO,hown,hE⟩:=hrel
  by_cases hlt:i<q
  · obtain ⟨ad,rfl,hb,hcell⟩:=hr (by omega)
    have hc0:=(hE.cell (p:=ad.add (2*i)) (by rw [aL];exact hb)).trans (hcell (2*i) (by omega))
    have hc1:=(hE.cell (p:=ad.add (2*i+1)) (by rw [aL];exact hb)).trans (hcell (2*i+1) (by omega))
    rw [U9 _ (2*i+1) (by omega)] at hc1
    have hb0:=dz hx (2*i)
    have hb1:=dz hx (2*i+1)
    have hz:=HXL.out i
    obtain ⟨x,hx0⟩:∃ x,lb xs (2*i)=x:=⟨_,rfl⟩
    obtain ⟨y,hy0⟩:∃ y,lb xs (2*i+1)=y:=⟨_,rfl⟩
    rw [hx0] at hc0 hb0 hz
    rw [hy0] at hc1 hb1 hz
    obtain ⟨z,hzz⟩:∃ z,x+4294967296*y=z:=⟨_,rfl⟩
    rw [hzz] at hz
    have hor:=u64_or32 x y z hb0 hb1 hzz
    have hyi:(y:Int)*4294967296=((4294967296*y:Nat):Int):=by omega
    have hyw:IntKind.u64.wrap ((4294967296*y:Nat):Int)=((4294967296*y:Nat):Int):=by rw [IntKind.wrap_u64];omega
    have hym:((4294967296*y:Nat):Int)%18446744073709551616=((4294967296*y:Nat):Int):=by omega
    have hxw:IntKind.u64.wrap (x:Int)=(x:Int):=by rw [IntKind.wrap_u64];omega
    have ajM:IntKind.u64.wrap (y:Int)=(y:Int):=by rw [IntKind.wrap_u64];omega
    have hf:=hown.frozen i
    have hcz:=hown.cell (j:=i) (by omega)
    have hown2:=hown.qO i z
    have hE2:=hE.setCell (p:=⟨B,i,none⟩) (by rw [hB];exact Nat.le_refl _) (.int .u64 (z:Nat))
    have HST:Hid (XD xs m (i+1) (o.set i z)):=HO.out.step (by omega) z hz
    generalize 4294967296*y=y2 at *
    have h2a:(0:Int)≤2*(i:Int):=by omega
    have h2b:2*(i:Int)<(n:Int):=by omega
    have h2c:2*(i:Int)+1<(n:Int):=by omega
    have h2d:(2*(i:Int)).toNat=2*i:=by omega
    have h2e:(2*(i:Int)+1).toNat=2*i+1:=by omega
    have h2f:(i:Int)<(m:Int):=by omega
    have hbn:(ad.add (2*i)).block≠B:=by rw [aL];omega
    have ajN:ad.block≠B:=by omega
    clear hx0 hy0 hz hzz hb0 hb1 hown HO hE
    go_wp2
    go_region
    all_goals
     go_wp2
     go_roundw
     case rel=>exact ⟨i+1,_,by omega,by go_num,HST,hown2.drew,hE2.drew⟩
     case measure=>simp [intOf];omega
  · obtain rfl:i=q:=by omega
    by_cases hodd:n%2=1
    · have hmm:m=i+1:=by omega
      have hm2:(n:Int).tmod 2=1:=by rw [Int.tmod_eq_emod_of_nonneg (by omega)];omega
      have ZY:(n:Int)%2=1:=by omega
      obtain ⟨ad,rfl,hb,hcell⟩:=hr (by omega)
      have hc0:=(hE.cell (p:=ad.add (2*i)) (by rw [aL];exact hb)).trans (hcell (2*i) (by omega))
      have hz:=HXL.out i
      rw [oI (o:=xs) (j:=2*i+1) (by rw [HN.out];omega),Nat.mul_zero,Nat.add_zero] at hz
      have hb0:=dz hx (2*i)
      obtain ⟨x,hx0⟩:∃ x,lb xs (2*i)=x:=⟨_,rfl⟩
      rw [hx0] at hc0 hb0 hz
      have hxw:IntKind.u64.wrap (x:Int)=(x:Int):=by rw [IntKind.wrap_u64];omega
      have hf:=hown.frozen i
      have hcz:=hown.cell (j:=i) (by omega)
      have hown2:=hown.qO i x
      have hE2:=hE.setCell (p:=⟨B,i,none⟩) (by rw [hB];exact Nat.le_refl _) (.int .u64 (x:Nat))
      have HST:Hid (XD xs m (i+1) (o.set i x)):=HO.out.step (by omega) x hz
      rw [← hmm] at HST
      have hdone:=HST.out.done HM.out
      rw [hdone] at hown2
      have e1:(n:Int)-1=((2*i:Nat):Int):=by omega
      have e2:(m:Int)-1=(i:Int):=by omega
      have e3:2*i<n:=by omega
      have e4:i<m:=by omega
      clear hx0 hz hb0 hown HO hE hdone HST
      go_wp2
      go_ret
      exact ⟨rfl,hown2,hE2⟩
    · have hmm:m=i:=by omega
      have hm2:(n:Int).tmod 2=0:=by rw [Int.tmod_eq_emod_of_nonneg (by omega)];omega
      have ZY:(n:Int)%2=0:=by omega
      subst hmm
      have hdone:=HO.out.done HM.out
      rw [hdone] at hown
      clear hdone HO
      go_wp2
      go_ret
      exact ⟨rfl,hown,hE⟩
theorem yG (w:World) (v:Value) (xs:List Nat) (h:U w v xs) :
  Calls Tryz.prog 154 #[v] w fun e w'=>(∃ u,e = .returned u∧Un w u (val xs))∧w=w':=by
 have h':=h
 obtain ⟨A,c,rfl,⟨hc,hm⟩,hx,hr⟩:=h
 go_enter Tryz.func154,Tryz.ntmps154
 go_wp2
 go_loop [3] (fun n=>∃ k:Nat,k≤xs.length∧n = .int .i64 k∧Hid (∀ j,k≤j→j<xs.length→lb xs j=0)) (fun n=>(intOf n).toNat)
 case atStart=>exact ⟨xs.length,Nat.le_refl _,rfl,fun j h1 h2=>by omega⟩
 case round =>
  obtain ⟨k,hk,rfl,hz⟩:=hrel
  have hfin:∀ c',k≤c'→(0<k→lb xs (k-1)≠0)→Un w (.slice A k c') (val xs):=fun c' h1 h2=>by
   unfold Un;rw [xx xs k hx hk hz.out h2];exact h'.take hk h1
  rcases Nat.eq_zero_or_pos k with rfl | h0
  · have HF:=Lib.hid (hfin 0 (Nat.le_refl _) (fun h=>absurd h (by omega)))
    clear hfin
    go_wp2
    go_ways
    go_ret
    exact ⟨⟨_,rfl,HF.out⟩,rfl⟩
  · obtain ⟨ad,rfl,hb,hcell⟩:=hr (by omega)
    have hc1:=hcell (k-1) (by omega)
    by_cases hx0:lb xs (k-1)=0
    · have ht:((((lb xs (k-1):Nat)):Int)==0)=true:=by rw [hx0];rfl
      have HX:=Lib.hid hx0
      clear hx0
      go_wp2
      go_round
      case rel=>exact ⟨k-1,by omega,by go_num,fun j h1 h2=>by
       rcases Nat.lt_or_ge j k with h3 | h3
       · have:j=k-1:=by omega
         subst this;exact HX.out
       · exact hz.out j h3 h2⟩
      case measure=>simp [intOf];omega
    · have ht:((((lb xs (k-1):Nat)):Int)==0)=false:=by rw [beq_eq_false_iff_ne];omega
      have HF:=Lib.hid (hfin k (Nat.le_refl _) (fun _=>hx0))
      clear hfin hx0
      go_wp2
      go_ret
      exact ⟨⟨_,rfl,HF.out⟩,rfl⟩
structure TU (ws:List Nat) (m i:Nat) (o:List Nat):Prop where
 len:o.length=m
 at_:∀ j,j<2*i→lb o j=lb (fK ws) j
theorem TU.step {ws:List Nat} {m i:Nat} {o:List Nat} (h:TU ws m i o) (hi:2*i+1<m) (x:Nat) (hx:lb ws i=x):TU ws m (i+1) ((o.set (2*i) (x%4294967296)).set (2*i+1) (x/4294967296)):=by
 refine ⟨by simp [h.len],fun j hj=>?_⟩
 have hu:=K9 ws i
 rw [hx] at hu
 rw [BA _ _ _ _ (by rw [List.length_set,h.len];exact hi),BA _ _ _ _ (by rw [h.len];omega)]
 by_cases e:2*i+1=j
 · rw [if_pos e,← e,hu.2]
 · rw [if_neg e]
   by_cases e2:2*i=j
   · rw [if_pos e2,← e2,hu.1]
   · rw [if_neg e2];exact h.at_ j (by omega)
theorem TU.done {ws:List Nat} {m i:Nat} {o:List Nat} (h:TU ws m i o) (hm:(fK ws).length=m) (hi:2*i=m):o=fK ws :=
 vZ (by rw [h.len,hm]) fun j hj=>h.at_ j (by rw [hi,← h.len];exact hj)
set_option maxRecDepth 100000 in
theorem GK (w:World) (g0:Nat) (v:Value) (ws:List Nat) (h:V g0 w v ws) (hl:ws.length≤1000000) :
  Calls Tryz.prog 151 #[v] w fun e w'=>(∃ u,e = .returned u∧Un w' u (bU ws))∧Ext w w':=by
 obtain ⟨A,c,rfl,⟨hc,hmx⟩,hx,hr⟩:=h
 obtain ⟨i0,hi,hz0,hz1,hz2⟩:=info_parts oJ
 obtain ⟨n,hn⟩:∃ n,ws.length=n:=⟨_,rfl⟩
 rw [hn] at hc hmx hr hl ⊢
 obtain ⟨m,hm⟩:∃ m,2*n=m:=⟨_,rfl⟩
 have HM:Hid ((fK ws).length=m):=by rw [Hid,zO,hn];exact hm
 have ZV:(2:Int)*(n:Int)=(m:Int):=by omega
 obtain ⟨B,hB⟩:∃ B,w.heap.size=B:=⟨_,rfl⟩
 have hm1:m≤2000000:=by omega
 have HW:=Lib.hid (BI ws hx)
 have HV:=Lib.hid (zP ws)
 have HTR:=Lib.hid (fun W v h=>yG W v (fK ws) h)
 clear hn
 go_enter Tryz.func151,Tryz.ntmps151
 go_wp2_with (at_make;refine wpList_make_full _ rfl _ _ 24 rfl w.heap.size 57 i0 (.int .u32 0) 1 Tryz.underlying24 hi hz0 hz1 _ _ _ _ m rfl rfl (by omega) (by omega) (by rw [hz2];omega) (by unfold maxLen;omega) (Nat.le_refl _) ?_;intro w1 hown hgrow)
 have ho0:Own w1 w.heap.size (.slice (some ⟨w.heap.size,0,none⟩) m m) (List.replicate m 0):=by
  have:=Own.zeros hown
  rwa [List.length_replicate] at this
 have hE0:Ext w w1:=(Ext.refl w).grown hgrow (Nat.le_refl _) (fun _ h=>by cases h)
 rw [hB] at ho0
 clear hown hgrow hi hz0 hz1 hz2 i0
 go_wp2
 go_loopw [12] (fun t wr=>∃ (i:Nat) (o:List Nat),i≤n∧t = .int .i64 (i:Nat)∧Hid (TU ws m i o)∧Own wr B (.slice (some ⟨B,0,none⟩) m m) o∧Ext w wr) (fun t _=>n-(intOf t).toNat)
 case atStart=>exact ⟨0,_,Nat.zero_le _,rfl,⟨by simp,fun j hj=>absurd hj (by omega)⟩,ho0,hE0⟩
 case round =>
  clear ho0 hE0
  obtain ⟨i,o,hiq,rfl,HO,hown,hE⟩:=hrel
  by_cases hlt:i<n
  · obtain ⟨ad,rfl,hb,hne,hcell⟩:=hr (by omega)
    have hc0:=(hE.cell (p:=ad.add i) (by rw [aL];exact hb)).trans (hcell i hlt)
    have hb0:lb ws i<18446744073709551616:=fQ (by decide) hx i
    obtain ⟨x,hx0⟩:∃ x,lb ws i=x:=⟨_,rfl⟩
    rw [hx0] at hc0 hb0
    have HST:Hid (TU ws m (i+1) ((o.set (2*i) (x%4294967296)).set (2*i+1) (x/4294967296))):=HO.out.step (by omega) x hx0
    have hol:=HO.out.len
    have hf0:=hown.frozen' (2*i)
    have hf1:=hown.frozen' (2*i+1)
    have hk0:=hown.rd.2 (2*i) (by omega)
    have hk1:=hown.rd.2 (2*i+1) (by omega)
    have hown2:=(hown.set' (2*i) (x%4294967296)).set' (2*i+1) (x/4294967296)
    have hE2:=(hE.setCell (p:=⟨B,2*i,none⟩) (by rw [hB];exact Nat.le_refl _) (.int .u32 (x%4294967296:Nat))).setCell (p:=⟨B,2*i+1,none⟩) (by rw [hB];exact Nat.le_refl _) (.int .u32 (x/4294967296:Nat))
    obtain ⟨x0,PR⟩:∃ x0,x%4294967296=x0:=⟨_,rfl⟩
    obtain ⟨x1,PS⟩:∃ x1,x/4294967296=x1:=⟨_,rfl⟩
    rw [PR,PS] at HST hown2 hE2
    have f0:IntKind.u32.wrap (x:Int)=(x0:Int):=by rw [IntKind.wrap_u32];omega
    have f00:(x:Int)%4294967296=(x0:Int):=by omega
    have f1:(x:Int)/4294967296=(x1:Int):=by omega
    have TV:x1<4294967296:=by omega
    have f2:IntKind.u32.wrap (x1:Int)=(x1:Int):=by rw [IntKind.wrap_u32];omega
    have f3:(x1:Int)%4294967296=(x1:Int):=by omega
    have h2a:(0:Int)≤2*(i:Int):=by omega
    have h2b:2*(i:Int)<(m:Int):=by omega
    have h2c:2*(i:Int)+1<(m:Int):=by omega
    have h2d:(2*(i:Int)).toNat=2*i:=by omega
    have h2e:(2*(i:Int)+1).toNat=2*i+1:=by omega
    have hbn:(ad.add i).block≠B:=by rw [aL];omega
    clear hx0 hb0 PR PS hown HO hE hol
    go_wp2
    go_roundw
    case rel=>exact ⟨i+1,_,by omega,by go_num,HST,hown2,hE2⟩
    case measure=>simp [intOf];omega
  · obtain rfl:i=n:=by omega
    have hdone:=HO.out.done HM.out hm
    rw [hdone] at hown
    have hu:=hown.BJ HW.out (by rw [HM.out];omega)
    clear hdone HO hown
    go_wp2_with (fail)
    refine (HTR.out _ _ hu).mono ?_
    rintro e w2 ⟨⟨u,rfl,hu2⟩,rfl⟩
    rw [HV.out] at hu2
    have HF:Hid (∃ u',Ending.returned u = .returned u'∧Un wr u' (bU ws)):=⟨_,rfl,hu2⟩
    clear hu2 hu
    go_wp2
    go_ret
    exact ⟨HF.out,hE⟩
end Go.Proofs.YtgcieamfidoaoaaGreatDoor
/- Words added to a row, and taken away from it. -/
namespace Go.Proofs.YtgcieamfidoaoaaGreatDoor
open Go.RowKit
theorem BH (x y c s d:Nat) (hc:c≤1) (hs:(x+y+c)%18446744073709551616=s) (hd:(x+y+c)/18446744073709551616=d) (w:World) :
  (callFunc 172 #[.int .u64 (x:Nat),.int .u64 (y:Nat),.int .u64 (c:Nat)]).run Tryz.prog w = .ok (.value (.tuple #[.int .u64 (s:Nat),.int .u64 (d:Nat)])) w:=by
 rw [run_callFunc_extern Tryz.func172 (by kernel_rfl) (by kernel_rfl) (by kernel_rfl) (e:=add64Entry) (by kernel_rfl),run_add64 x y c (by omega) (by omega) (by omega) (by omega),← hs,← hd]
 simp only [Result.andThen]
 congr 5<;>omega
theorem Hl (x y b s d:Nat) (hb:b≤1) (hs:(x+18446744073709551616-y-b)%18446744073709551616=s) (hd:(if x<y+b then 1 else 0)=d) (w:World) :
  (callFunc 227 #[.int .u64 (x:Nat),.int .u64 (y:Nat),.int .u64 (b:Nat)]).run Tryz.prog w = .ok (.value (.tuple #[.int .u64 (s:Nat),.int .u64 (d:Nat)])) w:=by
 rw [run_callFunc_extern Tryz.func227 (by kernel_rfl) (by kernel_rfl) (by kernel_rfl) (e:=sub64Entry) (by kernel_rfl),run_sub64 x y b hb,hs,hd]
 rfl
structure TL (n off:Nat) (A:Nat) (i:Nat) (o:List Nat) (cy:Nat):Prop where
 len:o.length=n
 lt:∀ x∈o,x<18446744073709551616
 Bz:cy≤1
 val:bU o+BB^(off+i)*cy=A
theorem TL.step {n off A i:Nat} {o:List Nat} {cy:Nat} (h:TL n off A i o cy) (hi:off+i<n) (y s d:Nat) (hy:y<18446744073709551616)
  (hs:(lb o (off+i)+y+cy)%18446744073709551616=s) (hd:(lb o (off+i)+y+cy)/18446744073709551616=d):TL n off (A+BB^(off+i)*y) (i+1) (o.set (off+i) s) d:=by
 have hx:lb o (off+i)<18446744073709551616:=fQ (by decide) h.lt _
 have h1:=h.Bz
 refine ⟨by simp [h.len],iQ h.lt (by omega),by omega,?_⟩
 rw [← Nat.add_assoc,Nat.pow_succ]
 exact EP _ _ _ _ _ _ _ _ _ (nX o (off+i) s (by rw [h.len];exact hi)) h.val (by unfold BB;omega)
end Go.Proofs.YtgcieamfidoaoaaGreatDoor
