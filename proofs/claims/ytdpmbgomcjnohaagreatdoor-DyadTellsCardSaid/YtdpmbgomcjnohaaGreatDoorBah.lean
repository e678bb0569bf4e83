/- nat.Cmp. -/
import Derived.Test.YtdpmbgomcjnohaaGreatDoorBag
import Derived.Test.YtdpmbgomcjnohaaGreatDoorBae

namespace Go.Proofs.YtdpmbgomcjnohaaGreatDoor
open Go.RowKit Go.Shelf
set_option linter.unusedVariables false
attribute [local go_sem] Oper.semAt_some
set_option maxRecDepth 100000 in
set_option maxHeartbeats 2000000 in
theorem SI (w:World) (v u:Value) (n m:Nat) (h:Un w v n) (g:Un w u m) (hl:(limbs n).length=(limbs m).length) :
  CallsIn Fence.wide 4 Tryz.prog 111 #[v,u] w fun e w'=>e = .returned (.int .i64 (bZ n m))∧Below w.heap.size w w':=by
 obtain ⟨A,c,rfl,⟨hc,hm⟩,hx,hr⟩:=id h
 obtain ⟨A2,c2,rfl,⟨hc2,hm2⟩,hx2,hr2⟩:=id g
 have hl1:((((limbs n).length:Nat):Int) != (((limbs m).length:Nat):Int))=false:=by rw [bne_eq_false_iff_eq,hl]
 have HL:=Lib.hid hl
 clear hl
 refine callsIn_of_wp_marks Tryz.func111 rfl trivial ?_ rfl
 simp only [Tryz.ntmps111,List.size_toArray,List.length_cons,List.length_nil,Nat.reduceAdd,Nat.reduceSub,Array.replicate_succ,Array.replicate_zero,List.push_toArray,List.append_toArray,List.nil_append,List.cons_append]
 gi_wp2_with (refine ⟨trivial,?_⟩;gi_at_call 135;refine (Vq _ _ _ _).mono ?_;rintro e w' ⟨rfl,rfl⟩)
 obtain ⟨W0,hW0⟩:∃ W0,((w.alloc (.cells #[.slice A2 (limbs m).length c2] 22)).alloc (.cells #[.int .i64 0] 3)).alloc (.cells #[.slice A (limbs n).length c] 22)=W0:=⟨_,rfl⟩
 have hB0:Below w.heap.size w W0:=by rw [← hW0];exact (((Below.refl _ w).alloc (Nat.le_refl _) _).alloc (by simp) _).alloc (by simp;omega) _
 have hsz:W0.heap.size=w.heap.size+1+1+1:=by rw [← hW0];simp
 have bB:Boxed W0 w.heap.size 22 (.slice A2 (limbs m).length c2):=by rw [← hW0];exact ((Boxed.new w 22 _).alloc _).alloc _
 have bR:Boxed W0 (w.heap.size+1) 3 (.int .i64 0):=by
  rw [← hW0]
  have:=(Boxed.new (w.alloc (.cells #[.slice A2 (limbs m).length c2] 22)) 3 (.int .i64 0)).alloc (.cells #[.slice A (limbs n).length c] 22)
  rwa [World.size_alloc] at this
 have bA:W0.cell? ⟨w.heap.size+1+1,0,none⟩=some (.slice A (limbs n).length c):=by
  rw [← hW0]
  have:=(Boxed.new ((w.alloc (.cells #[.slice A2 (limbs m).length c2] 22)).alloc (.cells #[.int .i64 0] 3)) 22 (.slice A (limbs n).length c)).cell
  rwa [World.size_alloc,World.size_alloc] at this
 rw [hW0]
 clear hW0
 refine wpIn_rangeFunc_ownG rfl (by omega) (gf := 149) (lb:=#[.pointer (some ⟨w.heap.size+1+1,0,none⟩)]) rfl trivial (enters_of Tryz.func149 (by kernel_rfl) rfl)
  (Lm (w.heap.size+1+1) _ (limbs n) W0 (by omega) bA (h.below hB0)) belowK_t (belowK_b (Nat.le_refl _)) (Below.refl _ _) (fun _=>rfl)
  (fun pre W=>((∀ p∈pre,lb (limbs n) p.1=lb (limbs m) p.1)∧W.cell? ⟨w.heap.size,0,none⟩=some (.slice A2 (limbs m).length c2)∧W.cell? ⟨w.heap.size+1,0,none⟩=some (.int .i64 0)∧W.frozen? ⟨w.heap.size+1,0,none⟩=false)∧Below w.heap.size w W)
  (fun c pre W=>(c = .ret∧∃ YK last,pre=YK++[last]∧(∀ p∈YK,lb (limbs n) p.1=lb (limbs m) p.1)∧lb (limbs n) last.1≠lb (limbs m) last.1∧W.cell? ⟨w.heap.size+1,0,none⟩=some (.int .i64 (bZ (lb (limbs n) last.1) (lb (limbs m) last.1))))∧Below w.heap.size w W)
  (OwnFrom.and (Own.from (fun s A B row hs hg hr=>⟨hs.1,cell_kept hs.2.1 hg hr,cell_kept hs.2.2.1 hg hr,(frozen_kept hs.2.2.1 hg hr).trans hs.2.2.2⟩) _) (ownFrom_below (Nat.le_refl _) (by omega)))
  (fun c=>OwnFrom.and (Own.from (fun s A B row hs hg hr=>by obtain ⟨hc,YK,last,e1,e2,e3,e4⟩:=hs;exact ⟨hc,YK,last,e1,e2,e3,cell_kept e4 hg hr⟩) _) (ownFrom_below (Nat.le_refl _) (by omega)))
  ⟨⟨by simp,bB.cell,bR.cell,bR.frozen⟩,hB0⟩
  (fun x=>{ tmps:=#[.slice A (limbs n).length c,.slice A2 (limbs m).length c2,undef,.pointer (some ⟨w.heap.size,0,none⟩),.pointer (some ⟨w.heap.size+1,0,none⟩),.int .i64 (x.1:Int),.int .u32 ((lb (limbs n) x.1:Nat):Int),.slice A (limbs n).length c,.int .i64 ((limbs n).length:Nat),.slice A2 (limbs m).length c2,.int .i64 ((limbs m).length:Nat),.bool false,undef,undef,undef,undef,undef,.slice A (limbs n).length c,.func (.func 149) #[] #[.pointer (some ⟨w.heap.size+1+1,0,none⟩)],.int .i64 (x.1:Int),.int .u32 ((lb (limbs n) x.1:Nat):Int),undef,undef,undef,undef,undef,undef,undef,undef,undef,undef,undef,undef],defers:=[] }) ?assign ?body ?done ?stop
 case assign =>
  intro l x W K hK
  gi_wp2
  exact hK
 case body =>
  rintro l pre x W ⟨⟨hp,hcb,hcr,hfr⟩,hB⟩ _
  obtain ⟨Jv,rfl,hb2,hcell2⟩:=hr2 (by have:=x.2;have:=HL.out;omega)
  have hlt2:((x.1:Nat):Int)<(limbs m).length:=by have:=x.2;have:=HL.out;omega
  have hc2:=(hB.cell (p:=Jv.add x.1) (by rw [aF];exact hb2)).trans (hcell2 x.1 (by have:=x.2;have:=HL.out;omega))
  by_cases he:lb (limbs n) x.1=lb (limbs m) x.1
  · have ht:((((lb (limbs n) x.1:Nat)):Int) != ((lb (limbs m) x.1:Nat):Int))=false:=by rw [bne_eq_false_iff_eq,he]
    have HX:=Lib.hid he
    clear he
    gi_wp2
    exact ⟨KeepsFrom.refl _ _,Below.refl _ _,⟨fun p hp'=>(List.mem_append.1 hp').elim (hp p) (fun e=>by simp at e;subst e;exact HX.out),hcb,hcr,hfr⟩,hB⟩
  · have ht:((((lb (limbs n) x.1:Nat)):Int) != ((lb (limbs m) x.1:Nat):Int))=true:=by rw [bne_iff_ne];omega
    have HX:=Lib.hid he
    clear he
    gi_wp2_with (refine ⟨trivial,?_⟩;gi_at_call 136;refine (CallsIn.inRound l (callsIn_wide.2 (Gj _ _ _))).mono ?_;rintro e w' ⟨rfl,rfl⟩)
    exact ⟨(KeepsOthers.setCell _ _ _).from _,⟨rfl,pre,x,rfl,hp,HX.out,World.cell?_setCell_same' _ _ _ (by rw [hcr];rfl)⟩,hB.setCell (p:=⟨w.heap.size+1,0,none⟩) (by simp) _⟩
 case done =>
  rintro D ys W hD hS ⟨⟨hne,hcb,hcr,hfr⟩,hB⟩ hK
  have hnm:n=m:=Oo (mP HL.out fun j hj=>by
   have:j∈ys.map (·.1):=by rw [hS,EC (Nat.le_refl _)];omega
   obtain ⟨p,hp,rfl⟩:=List.mem_map.1 this
   exact hne p hp)
  have HF:Hid (bZ n m=0):=by rw [Hid,hnm];exact qC _
  clear hnm hS
  gi_wp2
  have hK':=(KeepsOthers.setCell W ⟨w.heap.size+1,0,none⟩ (.int .i64 0)).same D _ hK rfl
  refine ⟨by simp,.inl ⟨_,_,rfl,run_takeDeferred hK',?_⟩⟩
  have PL:=cell_kept (World.cell?_setCell_same' W ⟨w.heap.size+1,0,none⟩ (.int .i64 0) (by rw [hcr];rfl)) (grownBy_putObj' _ D (.deferred none)) (fun r e=>by cases e;exact ⟨_,hK',rfl⟩)
  refine ⟨.int .i64 0,?_,by rw [HF.out],(hB.setCell (p:=⟨w.heap.size+1,0,none⟩) (by simp) _).trans (belowK_b (w:=w) (Nat.le_refl _) _ D _ _ (by omega) hK' rfl rfl)⟩
  simp [results,Tryz.f111,go_sem,PL]
 case stop =>
  rintro D cc pre W hD ⟨k,hk,hpre⟩ ⟨⟨rfl,YK,last,e1,e2,e3,hcr⟩,hB⟩ hK
  have HF:Hid (bZ (lb (limbs n) last.1) (lb (limbs m) last.1)=bZ n m):=SG HL.out last.2 (fun j h1 h2=>by
   subst e1
   rw [List.map_append] at hpre
   have hl3:=congrArg List.length hpre
   rw [Gh] at hl3
   simp at hl3
   have hk1:k=(k-1)+1:=by omega
   rw [hk1,vZ] at hpre
   obtain ⟨q1,q2⟩:=List.append_inj' hpre rfl
   simp at q2
   have:j∈YK.map (·.1):=by rw [q1,EC (by omega)];omega
   obtain ⟨p,hp,rfl⟩:=List.mem_map.1 this
   exact e2 p hp) e3
  clear e1 e2 e3 hpre
  gi_wp2
  refine ⟨by simp,.inl ⟨_,_,rfl,run_takeDeferred hK,?_⟩⟩
  have PL:=cell_kept hcr (grownBy_putObj' _ D (.deferred none)) (fun r e=>by cases e;exact ⟨_,hK,rfl⟩)
  refine ⟨.int .i64 (bZ n m),?_,rfl,hB.trans (belowK_b (w:=w) (Nat.le_refl _) W D _ _ (by omega) hK rfl rfl)⟩
  rw [HF.out] at PL
  simp [results,Tryz.f111,go_sem,PL]
set_option maxRecDepth 100000 in
set_option maxHeartbeats 1000000 in
theorem yY (w:World) (v u:Value) (n m:Nat) (h:Un w v n) (g:Un w u m) :
  Calls Tryz.prog 111 #[v,u] w fun e w'=>e = .returned (.int .i64 (bZ n m))∧Below w.heap.size w w':=by
 by_cases hl:(limbs n).length=(limbs m).length
 · exact callsIn_wide.1 (SI w v u n m h g hl)
 · obtain ⟨A,c,rfl,⟨hc,hm⟩,hx,hr⟩:=h
   obtain ⟨A2,c2,rfl,⟨hc2,hm2⟩,hx2,hr2⟩:=g
   clear hr hr2
   have hl1:((((limbs n).length:Nat):Int) != (((limbs m).length:Nat):Int))=true:=by rw [bne_iff_ne];omega
   have HF:=Lib.hid (SF hl)
   clear hl
   go_enter Tryz.func111,Tryz.ntmps111
   go_wp2_with (go_at_call 67;refine (qU _ _ _).mono ?_;rintro e w' ⟨rfl,rfl⟩)
   refine bodyPost_ret (v:=.int .i64 (bZ (limbs n).length (limbs m).length)) (by simp [results,Tryz.f111,go_sem]) rfl ⟨by rw [HF.out],((Below.refl _ w).alloc (Nat.le_refl _) _).alloc (by simp) _⟩
end Go.Proofs.YtdpmbgomcjnohaaGreatDoor
/- Sums and differences, limb by limb: plain lists and naturals. -/
namespace Go.Proofs.YtdpmbgomcjnohaaGreatDoor
abbrev Jf:={ p:Nat × Nat // p.1<4294967296∧p.2<4294967296 }
def iV (xs ys:List Nat) (k:Nat):List (Nat × Nat):=(List.range k).map fun j=>(lb xs j,lb ys j)
theorem tO (xs ys:List Nat) (k:Nat):iV xs ys (k+1)=iV xs ys k++[(lb xs k,lb ys k)]:=by simp [iV,List.range_succ]
def firsts (l:List Jf):List Nat:=l.map (·.1.1)
def seconds (l:List Jf):List Nat:=l.map (·.1.2)
theorem oG (xs:List Nat) (L:Nat) (h:xs.length≤L):val ((List.range L).map fun j=>lb xs j)=val xs:=by
 rw [← Jg ((List.range L).map fun j=>lb xs j) xs.length]
 · congr 1
   apply mP
   · simp;omega
   · intro j hj
     simp at hj
     rw [iA (by omega)]
     simp [lb,show j<L by omega]
 · intro j h1 h2
   simp at h2
   simp [h2,pz h1]
theorem Dh {l:List Jf} {xs ys:List Nat} (h:l.map (·.1)=iV xs ys xs.length):val (firsts l)=val xs:=by
 have:firsts l=(List.range xs.length).map fun j=>lb xs j:=by
  have:=congrArg (List.map Prod.fst) h
  simpa [firsts,iV,List.map_map,Function.comp_def] using this
 rw [this,oG _ _ (Nat.le_refl _)]
theorem zD {l:List Jf} {xs ys:List Nat} (h:l.map (·.1)=iV xs ys xs.length) (hl:ys.length≤xs.length):val (seconds l)=val ys:=by
 have:seconds l=(List.range xs.length).map fun j=>lb ys j:=by
  have:=congrArg (List.map Prod.snd) h
  simpa [seconds,iV,List.map_map,Function.comp_def] using this
 rw [this,oG _ _ hl]
structure oH (pre:List Jf) (o:List Nat) (c:Nat):Prop where
 len:o.length=pre.length
 lt:∀ x∈o,x<4294967296
 carry:c≤1
 val_eq:val o+c*4294967296^pre.length=val (firsts pre)+val (seconds pre)
theorem oH.start:oH [] [] 0:=⟨rfl,by simp,by omega,by simp [firsts,seconds,val]⟩
theorem oH.step {pre:List Jf} {o:List Nat} {c:Nat} (h:oH pre o c) (p:Jf) :
  oH (pre++[p]) (o++[(p.1.1+p.1.2+c)%4294967296]) ((p.1.1+p.1.2+c)/4294967296):=by
 have h1:=p.2.1
 have h2:=p.2.2
 have h3:=h.carry
 refine ⟨by simp [h.len],l5 h.lt (Nat.mod_lt _ (by decide)),by omega,?_⟩
 have e1:firsts (pre++[p])=firsts pre++[p.1.1]:=by simp [firsts]
 have e2:seconds (pre++[p])=seconds pre++[p.1.2]:=by simp [seconds]
 have l1:(firsts pre).length=pre.length:=by simp [firsts]
 have l2:(seconds pre).length=pre.length:=by simp [seconds]
 rw [e1,e2,val_append,val_append,val_append,l1,l2,h.len]
 simp only [val,Nat.mul_zero,Nat.add_zero,List.length_append,List.length_singleton,Nat.pow_succ]
 have e:=h.val_eq
 generalize 4294967296^pre.length=B at *
 have e3:(p.1.1+p.1.2+c)=(p.1.1+p.1.2+c)%4294967296+(p.1.1+p.1.2+c)/4294967296*4294967296:=by omega
 have e4:(p.1.1+p.1.2+c)*B=(p.1.1+p.1.2+c)%4294967296*B+(p.1.1+p.1.2+c)/4294967296*4294967296*B:=by
  conv=>lhs;rw [e3]
  rw [Nat.add_mul]
 rw [Nat.add_mul,Nat.add_mul] at e4
 have e5:(p.1.1+p.1.2+c)/4294967296*(B*4294967296)=(p.1.1+p.1.2+c)/4294967296*4294967296*B:=by
  rw [Nat.mul_comm B 4294967296,← Nat.mul_assoc]
 rw [e5,Nat.mul_comm B,Nat.mul_comm B,Nat.mul_comm B]
 omega
theorem oH.done {pre:List Jf} {o:List Nat} {c:Nat} (h:oH pre o c) {xs ys:List Nat} (hp:pre.map (·.1)=iV xs ys xs.length) (hl:ys.length≤xs.length) :
  val (o++[c])=val xs+val ys:=by
 rw [val_append,← Dh hp,← zD hp hl,← h.val_eq,h.len]
 simp only [val,Nat.mul_zero,Nat.add_zero]
 rw [Nat.mul_comm c]
structure rq (pre:List Jf) (o:List Nat) (c:Nat):Prop where
 len:o.length=pre.length
 lt:∀ x∈o,x<4294967296
 carry:c≤1
 val_eq:val o+val (seconds pre)=val (firsts pre)+c*4294967296^pre.length
theorem rq.start:rq [] [] 0:=⟨rfl,by simp,by omega,by simp [firsts,seconds,val]⟩
def uI (x y c:Nat):Nat:=(x+4294967296+4294967296-y-c)%4294967296
def uJ (x y c:Nat):Nat:=if x<y+c then 1 else 0
theorem Di (x y c:Nat) (h1:x<4294967296) (h2:y<4294967296) (h3:c≤1):uI x y c+y+c=x+uJ x y c*4294967296:=by
 unfold uI uJ
 split
 · rename_i h
   have e:(x+4294967296+4294967296-y-c)%4294967296=x+4294967296-y-c:=by
    rw [show x+4294967296+4294967296-y-c=(x+4294967296-y-c)+4294967296 by omega,Nat.add_mod_right,Nat.mod_eq_of_lt (by omega)]
   rw [e];omega
 · rename_i h
   have e:(x+4294967296+4294967296-y-c)%4294967296=x-y-c:=by
    rw [show x+4294967296+4294967296-y-c=(x-y-c)+4294967296+4294967296 by omega,Nat.add_mod_right,Nat.add_mod_right,Nat.mod_eq_of_lt (by omega)]
   rw [e];omega
theorem xP (x y c:Nat):uI x y c<4294967296:=by
 unfold uI
 exact Nat.mod_lt _ (by decide)
theorem Gf (x y c:Nat):uJ x y c≤1:=by unfold uJ;split<;>omega
theorem val_one (x:Nat):val [x]=x:=rfl
theorem rq.step {pre:List Jf} {o:List Nat} {c:Nat} (h:rq pre o c) (p:Jf) :
  rq (pre++[p]) (o++[uI p.1.1 p.1.2 c]) (uJ p.1.1 p.1.2 c):=by
 have h1:=p.2.1
 have h2:=p.2.2
 have h3:=h.carry
 have hs:=Di p.1.1 p.1.2 c h1 h2 h3
 have k1:=xP p.1.1 p.1.2 c
 have k2:=Gf p.1.1 p.1.2 c
 generalize uI p.1.1 p.1.2 c=d at *
 generalize uJ p.1.1 p.1.2 c=f at *
 refine ⟨by simp [h.len],l5 h.lt k1,k2,?_⟩
 have e1:firsts (pre++[p])=firsts pre++[p.1.1]:=by simp [firsts]
 have e2:seconds (pre++[p])=seconds pre++[p.1.2]:=by simp [seconds]
 have l1:(firsts pre).length=pre.length:=by simp [firsts]
 have l2:(seconds pre).length=pre.length:=by simp [seconds]
 rw [e1,e2,val_append,val_append,val_append,l1,l2,h.len,val_one,val_one,val_one,List.length_append,List.length_singleton,Nat.pow_succ]
 have e:=h.val_eq
 generalize 4294967296^pre.length=B at *
 have e4:(d+p.1.2+c)*B=(p.1.1+f*4294967296)*B:=by rw [hs]
 rw [Nat.add_mul,Nat.add_mul,Nat.add_mul] at e4
 have e5:f*(B*4294967296)=f*4294967296*B:=by
  rw [Nat.mul_comm B 4294967296,← Nat.mul_assoc]
 rw [e5,Nat.mul_comm B,Nat.mul_comm B,Nat.mul_comm B]
 omega
theorem rq.done {pre:List Jf} {o:List Nat} {c:Nat} (h:rq pre o c) {xs ys:List Nat} (hp:pre.map (·.1)=iV xs ys xs.length) (hl:ys.length≤xs.length) (hge:val ys≤val xs) :
  val o=val xs-val ys:=by
 have e:=h.val_eq
 rw [Dh hp,zD hp hl] at e
 have hlt:=sK o h.lt
 rw [h.len] at hlt
 have hc:=h.carry
 generalize 4294967296^pre.length=B at *
 have:c=0∨c=1:=by omega
 rcases this with rfl | rfl<;>omega
end Go.Proofs.YtdpmbgomcjnohaaGreatDoor
/- The closures of nat.Add and nat.Sub. -/
namespace Go.Proofs.YtdpmbgomcjnohaaGreatDoor
open Go.RowKit Go.Shelf
set_option linter.unusedVariables false
set_option maxHeartbeats 400000
set_option maxRecDepth 100000
theorem Jh (w:World) (x y c:Nat) (hx:x<4294967296) (hy:y<4294967296) (hc:c≤1) :
  Calls Tryz.prog 148 #[.int .u32 x,.int .u32 y,.int .u32 c] w fun e w'=>e = .returned (.tuple #[.int .u32 ((x+y+c)%4294967296:Nat),.int .u32 ((x+y+c)/4294967296:Nat)])∧w=w':=by
 have h1:((x:Nat):Int)<4294967296:=by omega
 have h2:((y:Nat):Int)<4294967296:=by omega
 have h3:((c:Nat):Int)≤1:=by omega
 clear hx hy hc
 go_enter Tryz.func148,Tryz.ntmps148
 go_wp2
 go_ret2
 exact ⟨by rw [Int.natCast_emod,Int.natCast_ediv,Int.natCast_add,Int.natCast_add];rfl,rfl⟩
theorem Vk (n:Nat) (h:n<4294967296):n/2147483648=if n.testBit 31 then 1 else 0:=by
 have e:n.testBit 31=decide (2147483648≤n):=by
  rw [Nat.testBit_eq_decide_div_mod_eq]
  have h2:n/2^31<2:=by rw [Nat.div_lt_iff_lt_mul (by decide)];exact h
  rw [Nat.mod_eq_of_lt h2,Bool.eq_iff_iff,decide_eq_true_iff,decide_eq_true_iff]
  simp only [Nat.reducePow]
  constructor<;>intro g<;>omega
 rw [e]
 by_cases hn:2147483648≤n
 · rw [decide_eq_true hn,if_pos rfl];omega
 · rw [decide_eq_false hn,if_neg (by decide)];omega
theorem Ld (n:Nat) (h:n<4294967296):n.testBit 31=decide (2147483648≤n):=by
 rw [Nat.testBit_eq_decide_div_mod_eq]
 have h2:n/2^31<2:=by rw [Nat.div_lt_iff_lt_mul (by decide)];exact h
 rw [Nat.mod_eq_of_lt h2,Bool.eq_iff_iff,decide_eq_true_iff,decide_eq_true_iff]
 simp only [Nat.reducePow]
 constructor<;>intro g<;>omega
theorem Le (x y c:Nat) (hx:x<4294967296) (hy:y<4294967296) (hc:c≤1) :
  (((4294967295^^^x)&&&y)|||((4294967295^^^(x^^^y))&&&uI x y c))/2147483648=uJ x y c:=by
 have hd:=xP x y c
 have hs:=Di x y c hx hy hc
 have p32:(4294967296:Nat)=2^32:=rfl
 have b1:((4294967295^^^x)&&&y)<4294967296:=Nat.lt_of_le_of_lt Nat.and_le_right hy
 have b2:((4294967295^^^(x^^^y))&&&uI x y c)<4294967296:=Nat.lt_of_le_of_lt Nat.and_le_right hd
 have b3:(((4294967295^^^x)&&&y)|||((4294967295^^^(x^^^y))&&&uI x y c))<4294967296:=by
  rw [p32] at b1 b2 ⊢;exact Nat.or_lt_two_pow b1 b2
 rw [Vk _ b3]
 have hc2:=Gf x y c
 have t:(4294967295:Nat).testBit 31=true:=by decide
 rw [Nat.testBit_or,Nat.testBit_and,Nat.testBit_and,Nat.testBit_xor,Nat.testBit_xor,Nat.testBit_xor,t,Ld x hx,Ld y hy,Ld _ hd]
 generalize uI x y c=d at *
 have hC:uJ x y c=0∧y+c≤x∨uJ x y c=1∧x<y+c:=by
  unfold uJ
  split
  · right;omega
  · left;omega
 generalize uJ x y c=f at *
 by_cases g1:2147483648≤x<;>by_cases g2:2147483648≤y<;>by_cases g3:2147483648≤d<;>simp [g1,g2,g3]<;>omega
theorem Ji (x y c:Nat) (hx:x<4294967296) (hy:y<4294967296) (hc:c≤1):(((x:Nat):Int)-(y:Nat)-(c:Nat))%4294967296=((uI x y c:Nat):Int):=by
 have hs:=Di x y c hx hy hc
 have hd:=xP x y c
 have hc2:=Gf x y c
 generalize uI x y c=d at *
 generalize uJ x y c=f at *
 omega
theorem Jj (x y c:Nat) (hx:x<4294967296) (hy:y<4294967296) (hc:c≤1) :
  bits .or .u32 (bits .and .u32 (bits .xor .u32 IntKind.u32.max ((x:Nat):Int)) ((y:Nat):Int)) (bits .and .u32 (bits .xor .u32 IntKind.u32.max (bits .xor .u32 ((x:Nat):Int) ((y:Nat):Int))) ((((x:Nat):Int)-(y:Nat)-(c:Nat))%4294967296))/2147483648=((uJ x y c:Nat):Int):=by
 have hd:=xP x y c
 have p32:(4294967296:Nat)=2^32:=rfl
 have b0:(x^^^y)<4294967296:=by rw [p32] at hx hy ⊢;exact Nat.xor_lt_two_pow hx hy
 have b4:(4294967295^^^x)<4294967296:=by rw [p32] at hx ⊢;exact Nat.xor_lt_two_pow (by decide) hx
 have b5:(4294967295^^^(x^^^y))<4294967296:=by rw [p32] at b0 ⊢;exact Nat.xor_lt_two_pow (by decide) b0
 have b1:((4294967295^^^x)&&&y)<4294967296:=Nat.lt_of_le_of_lt Nat.and_le_right hy
 have b2:((4294967295^^^(x^^^y))&&&uI x y c)<4294967296:=Nat.lt_of_le_of_lt Nat.and_le_right hd
 have em:IntKind.u32.max=((4294967295:Nat):Int):=by decide
 rw [Ji x y c hx hy hc,em,u32_xor_nat _ _ (by decide) hx,u32_and_nat _ _ b4 hy,u32_xor_nat _ _ hx hy,u32_xor_nat _ _ (by decide) b0,u32_and_nat _ _ b5 hd,u32_or_nat _ _ b1 b2,← Le x y c hx hy hc,Int.natCast_ediv]
 rfl
theorem Jk (w:World) (x y c:Nat) (hx:x<4294967296) (hy:y<4294967296) (hc:c≤1) :
  Calls Tryz.prog 145 #[.int .u32 x,.int .u32 y,.int .u32 c] w fun e w'=>e = .returned (.tuple #[.int .u32 (uI x y c:Nat),.int .u32 (uJ x y c:Nat)])∧w=w':=by
 have H1:=Lib.hid (Ji x y c hx hy hc)
 have H2:=Lib.hid (Jj x y c hx hy hc)
 clear hx hy hc
 go_enter Tryz.func145,Tryz.ntmps145
 go_wp2
 go_ret2
 exact ⟨by rw [← H1.out,← H2.out];rfl,rfl⟩
theorem nH (w:World) (x y c b:Nat) (hx:x<4294967296) (hy:y<4294967296) (hc:c≤1) (hcell:w.cell? ⟨b,0,none⟩=some (.int .u32 c)) (hf:w.frozen? ⟨b,0,none⟩=false) :
  Calls Tryz.prog 147 #[.int .u32 x,.int .u32 y,.pointer (some ⟨b,0,none⟩)] w fun e w'=>e = .returned (.int .u32 ((x+y+c)%4294967296:Nat))∧w'=w.setCell ⟨b,0,none⟩ (.int .u32 ((x+y+c)/4294967296:Nat)):=by
 have H1:=Lib.hid hx
 have H2:=Lib.hid hy
 have H3:=Lib.hid hc
 clear hx hy hc
 go_enter Tryz.func147,Tryz.ntmps147
 go_wp2_with (go_at_call 148;refine (Jh _ x y c H1.out H2.out H3.out).mono ?_;rintro e w' ⟨rfl,rfl⟩)
 go_ret
 exact ⟨by rw [Int.natCast_emod,Int.natCast_add,Int.natCast_add];rfl,by rw [Int.natCast_ediv,Int.natCast_add,Int.natCast_add];rfl⟩
theorem Gg (w:World) (x y c b:Nat) (hx:x<4294967296) (hy:y<4294967296) (hc:c≤1) (hcell:w.cell? ⟨b,0,none⟩=some (.int .u32 c)) (hf:w.frozen? ⟨b,0,none⟩=false) :
  Calls Tryz.prog 144 #[.int .u32 x,.int .u32 y,.pointer (some ⟨b,0,none⟩)] w fun e w'=>e = .returned (.int .u32 (uI x y c:Nat))∧w'=w.setCell ⟨b,0,none⟩ (.int .u32 (uJ x y c:Nat)):=by
 have H1:=Lib.hid hx
 have H2:=Lib.hid hy
 have H3:=Lib.hid hc
 clear hx hy hc
 go_enter Tryz.func144,Tryz.ntmps144
 go_wp2_with (go_at_call 145;refine (Jk _ x y c H1.out H2.out H3.out).mono ?_;rintro e w' ⟨rfl,rfl⟩)
 go_ret
 exact ⟨rfl,rfl⟩
theorem zF (w:World):Calls Tryz.prog 134 #[] w fun e w'=>e = .returned (.func (.func 147) #[] #[.pointer (some ⟨w.heap.size,0,none⟩)])∧w'=w.alloc (.cells #[.int .u32 0] 67):=by
 go_enter Tryz.func134,Tryz.ntmps134
 go_wp2
 go_ret
 exact ⟨rfl,rfl⟩
theorem Jl (w:World):Calls Tryz.prog 132 #[] w fun e w'=>e = .returned (.func (.func 144) #[] #[.pointer (some ⟨w.heap.size,0,none⟩)])∧w'=w.alloc (.cells #[.int .u32 0] 67):=by
 go_enter Tryz.func132,Tryz.ntmps132
 go_wp2
 go_ret
 exact ⟨rfl,rfl⟩
theorem tQ (w:World) (a b:Option Addr) (l l' c c':Nat) :
  Calls Tryz.prog 133 #[.slice a l c,.slice b l' c'] w fun e w'=>e = .returned (.func (.func 146) #[] #[.pointer (some ⟨w.heap.size+1,0,none⟩),.pointer (some ⟨w.heap.size,0,none⟩)])∧w'=(w.alloc (.cells #[.slice a l c] 22)).alloc (.cells #[.slice b l' c'] 22):=by
 go_enter Tryz.func133,Tryz.ntmps133
 go_wp2
 go_ret
 exact ⟨rfl,rfl⟩
end Go.Proofs.YtdpmbgomcjnohaaGreatDoor
/- The iterator of nat.Add and nat.Sub: limbs place by place. -/
namespace Go.Proofs.YtdpmbgomcjnohaaGreatDoor
open Go.RowKit Go.Shelf
set_option linter.unusedVariables false
attribute [local go_sem] Oper.semAt_some
abbrev Vl (p:Jf):Array Value:=#[.int .u32 (p.1.1:Int),.int .u32 (p.1.2:Int)]
def mkP {xs ys:List Nat} (hx:∀ x∈xs,x<4294967296) (hy:∀ x∈ys,x<4294967296) (j:Nat):Jf:=⟨(lb xs j,lb ys j),cK hx j,cK hy j⟩
structure Lf (n₀ Ba Bb:Nat) (W W':World):Prop where
 Dp:Below n₀ W W'
 ba:W'.heap[Ba]?=W.heap[Ba]?
 bb:W'.heap[Bb]?=W.heap[Bb]?
theorem Lf.refl (n₀ Ba Bb:Nat) (W:World):Lf n₀ Ba Bb W W:=⟨Below.refl _ _,rfl,rfl⟩
theorem Lf.trans {n₀ Ba Bb:Nat} {A B C:World} (h:Lf n₀ Ba Bb A B) (k:Lf n₀ Ba Bb B C):Lf n₀ Ba Bb A C:=⟨h.Dp.trans k.Dp,k.ba.trans h.ba,k.bb.trans h.bb⟩
theorem SC {n₀ Ba Bb:Nat} {w:World} (hn:n₀≤w.heap.size) (ha:Ba<w.heap.size) (hb:Bb<w.heap.size) (W:World) (l:Nat) (o o':Obj) (hl:w.heap.size≤l) (h:W.heap[l]?=some o) (h1:o.isCells=false) (h2:o.isWalk=false):Lf n₀ Ba Bb W (W.putObj l o'):=by
 have hg:=grownBy_putObj' W l o'
 have hlt:=(Array.getElem?_eq_some_iff.1 h).1
 exact ⟨belowK_b hn W l o o' hl h h1 h2,hg.block Ba (by omega) (fun e=>by injection e with e;omega),hg.block Bb (by omega) (fun e=>by injection e with e;omega)⟩
set_option maxRecDepth 100000 in
set_option maxHeartbeats 4000000 in
theorem Oi (l Ba Bb:Nat) (A A2:Option Addr) (c c2:Nat) (xs ys:List Nat) (hle:ys.length≤xs.length) (n₀:Nat) (W:World)
  (hUa:U W (.slice A xs.length c) xs) (hUb:U W (.slice A2 ys.length c2) ys) (hba:∀ ad,A=some ad→0<xs.length→ad.block<n₀) (hbb:∀ ad,A2=some ad→0<ys.length→ad.block<n₀) (J Jx:List Jf→World→Prop)
  (hY:∀ pre x W,J pre W→pre.length<xs.length→YieldAt Fence.wide 2 Tryz.prog l (Vl x) W fun e W' =>
   (e = .returned (.bool true)∧J (pre++[x]) W'∧Lf n₀ Ba Bb W W')∨(e = .returned (.bool false)∧Jx (pre++[x]) W'))
  (hca:W.cell? ⟨Ba,0,none⟩=some (.slice A xs.length c)) (hcb:W.cell? ⟨Bb,0,none⟩=some (.slice A2 ys.length c2)) (h0:J [] W) :
  CallsIn Fence.wide 3 Tryz.prog 146 #[.func (.yield l) #[] #[],.pointer (some ⟨Bb,0,none⟩),.pointer (some ⟨Ba,0,none⟩)] W fun e W'=>(∃ v,e = .returned v) ∧
   ((∃ l,l.map (·.1)=iV xs ys xs.length∧J l W')∨(∃ pre,True∧Jx pre W')):=by
 obtain ⟨_,_,hva,⟨h1,h2⟩,hx,hr⟩:=hUa
 injection hva with e1 _ e3
 subst e1 e3
 obtain ⟨_,_,hvb,⟨h3,h4⟩,hy,hr2⟩:=hUb
 injection hvb with e1 _ e3
 subst e1 e3
 refine callsIn_of_wp Tryz.func146 rfl trivial ?_ rfl
 simp only [Tryz.ntmps146,List.size_toArray,List.length_cons,List.length_nil,Nat.reduceAdd,Nat.reduceSub,Array.replicate_succ,Array.replicate_zero,List.push_toArray,List.append_toArray,List.nil_append,List.cons_append]
 gi_wp2
 gi_loopw [10] (fun i wr=>∃ (k:Nat) (pre:List Jf),k≤ys.length∧i = .int .i64 (k:Int)∧Hid (pre.map (·.1)=iV xs ys k)∧J pre wr∧Lf n₀ Ba Bb W wr)
  (fun i _=>ys.length-(intOf i).toNat)
 case atStart=>exact ⟨0,[],Nat.zero_le _,rfl,rfl,h0,Lf.refl _ _ _ _⟩
 case round =>
  obtain ⟨k,pre,hk,rfl,hp,hJs,hnx⟩:=hrel
  have aa2:=(World.cell?_of_block (w:=W) (a:=⟨Ba,0,none⟩) hnx.ba).trans hca
  have aeI:=(World.cell?_of_block (w:=W) (a:=⟨Bb,0,none⟩) hnx.bb).trans hcb
  by_cases hlt:k<ys.length
  · obtain ⟨ad,rfl,hb,hcell⟩:=hr (by omega)
    obtain ⟨Jv,rfl,hb2,hcell2⟩:=hr2 (by omega)
    have hc1:=(hnx.Dp.cell (p:=ad.add k) (by rw [aF];exact hba ad rfl (by omega))).trans (hcell k (by omega))
    have hc2:=(hnx.Dp.cell (p:=Jv.add k) (by rw [aF];exact hbb Jv rfl (by omega))).trans (hcell2 k hlt)
    have hpl:pre.length=k:=by have:=congrArg List.length hp.out;simpa [iV] using this
    obtain ⟨fn,tmps,assign,body,hy1,hR⟩:=hY pre (mkP hx hy k) wr hJs (by omega)
    dsimp only [Vl,mkP] at hy1
    have HP:=Lib.hid hpl
    have hkx:((k:Nat):Int)<xs.length:=by omega
    clear hpl
    gi_wp2
    refine hR.mono ?_
    rintro e W3 (⟨rfl,hJ3,hk3⟩ | ⟨rfl,hJx3⟩)
    · gi_wp2
      go_roundw
      case rel=>exact ⟨k+1,_,by omega,by go_num,by rw [Hid,List.map_append,hp.out,tO];rfl,hJ3,hnx.trans hk3⟩
      case measure=>simp [intOf];omega
    · gi_wp2
      refine bodyPost_ret (results_none rfl _ _ _) rfl ?_
      exact ⟨⟨_,rfl⟩,.inr ⟨_,trivial,hJx3⟩⟩
  · obtain rfl:k=ys.length:=by omega
    rcases Nat.lt_or_ge ys.length xs.length with hl2 | hl2
    · obtain ⟨ad,rfl,hb,hcell⟩:=hr (by omega)
      have aeo:¬ c=ys.length:=by omega
      gi_wp2
      gi_loopw [29] (fun i wr=>∃ (k:Nat) (pre:List Jf),k≤xs.length-ys.length∧i = .int .i64 (k:Int)∧Hid (pre.map (·.1)=iV xs ys (ys.length+k))∧J pre wr∧Lf n₀ Ba Bb W wr)
       (fun i _=>xs.length-ys.length-(intOf i).toNat)
      case atStart=>exact ⟨0,pre,Nat.zero_le _,rfl,hp,hJs,hnx⟩
      case round =>
       clear hp hJs hnx aa2 aeI pre
       obtain ⟨k,pre,hk,rfl,hp,hJs,hnx⟩:=hrel
       by_cases hlt:k<xs.length-ys.length
       · have hc1:wr.cell? ((ad.add ys.length).add k)=some (.int .u32 ((lb xs (ys.length+k):Nat):Int)):=by
          rw [addr_add_add]
          exact (hnx.Dp.cell (p:=ad.add (ys.length+k)) (by rw [aF];exact hba ad rfl (by omega))).trans (hcell _ (by omega))
         have hpl:pre.length=ys.length+k:=by have:=congrArg List.length hp.out;simpa [iV] using this
         obtain ⟨fn,tmps,assign,body,hy1,hR⟩:=hY pre (mkP hx hy (ys.length+k)) wr hJs (by omega)
         dsimp only [Vl,mkP] at hy1
         rw [pz (show ys.length≤ys.length+k by omega),show (((0:Nat)):Int)=0 from rfl] at hy1
         have HP:=Lib.hid hpl
         clear hpl
         by_cases hk0:k=0
         · subst hk0
           rw [iF,Nat.add_zero] at hc1
           rw [Nat.add_zero] at hy1
           gi_wp2
           refine hR.mono ?_
           rintro e W3 (⟨rfl,hJ3,hk3⟩ | ⟨rfl,hJx3⟩)
           · gi_wp2
             go_roundw
             case rel=>exact ⟨1,_,by omega,by go_num,by rw [Hid,List.map_append,hp.out,tO];rfl,hJ3,hnx.trans hk3⟩
             case measure=>simp [intOf];omega
           · gi_wp2
             refine bodyPost_ret (results_none rfl _ _ _) rfl ?_
             exact ⟨⟨_,rfl⟩,.inr ⟨_,trivial,hJx3⟩⟩
         · gi_wp2
           refine hR.mono ?_
           rintro e W3 (⟨rfl,hJ3,hk3⟩ | ⟨rfl,hJx3⟩)
           · gi_wp2
             go_roundw
             case rel=>exact ⟨k+1,_,by omega,by go_num,by rw [Hid,List.map_append,hp.out,← Nat.add_assoc,tO];rfl,hJ3,hnx.trans hk3⟩
             case measure=>simp [intOf];omega
           · gi_wp2
             refine bodyPost_ret (results_none rfl _ _ _) rfl ?_
             exact ⟨⟨_,rfl⟩,.inr ⟨_,trivial,hJx3⟩⟩
       · have HP:Hid (pre.map (·.1)=iV xs ys xs.length):=by rw [Hid,hp.out,show ys.length+k=xs.length by omega]
         gi_wp2
         go_end0
         exact ⟨⟨_,rfl⟩,.inl ⟨_,HP.out,hJs⟩⟩
    · have HP:Hid (pre.map (·.1)=iV xs ys xs.length):=by rw [Hid,hp.out,show ys.length=xs.length by omega]
      have hz:xs.length-ys.length=0:=by omega
      have hxy:xs.length=ys.length:=by omega
      have HJ:=Lib.hid hJs
      clear hJs hp
      rw [hxy] at aa2
      clear hxy hz
      gi_wp2
      all_goals
       gi_loopw [29] (fun i wr=>i = .int .i64 0∧J pre wr) (fun _ _=>0)
       case atStart=>exact ⟨rfl,HJ.out⟩
       case round =>
        obtain ⟨rfl,hJs⟩:=hrel
        gi_wp2
        go_end0
        exact ⟨⟨_,rfl⟩,.inl ⟨_,HP.out,hJs⟩⟩
theorem tT (Ba Bb:Nat) (v u:Value) (xs ys:List Nat) (w0 w:World) (hB:Below w0.heap.size w0 w) (hle:ys.length≤xs.length) (hBa:Ba<w.heap.size) (hBb:Bb<w.heap.size)
  (hca:Boxed w Ba 22 v) (hcb:Boxed w Bb 22 u) (hU:U w0 v xs) (hV:U w0 u ys) :
  SeqStopsK Fence.wide 3 Tryz.prog 146 #[.pointer (some ⟨Bb,0,none⟩),.pointer (some ⟨Ba,0,none⟩)] Vl (Lf w0.heap.size Ba Bb) (fun l=>l.map (·.1)=iV xs ys xs.length)
   (fun pre=>True) xs.length w:=fun l J Jx W hW _ _ hY h0=>by
 obtain ⟨A,c,rfl,h1,hx,hr⟩:=id hU
 obtain ⟨A2,c2,rfl,h2,hy,hr2⟩:=id hV
 have hW':=hB.trans (hW.mono hB.size)
 exact Oi l Ba Bb A A2 c c2 xs ys hle w0.heap.size W (hU.below hW') (hV.below hW')
  (fun ad e h0=>by obtain ⟨ZU,e',hb,_⟩:=hr h0;rw [e] at e';injection e' with e';subst e';exact hb)
  (fun ad e h0=>by obtain ⟨ZU,e',hb,_⟩:=hr2 h0;rw [e] at e';injection e' with e';subst e';exact hb) J Jx hY
  ((hW.cell (p:=⟨Ba,0,none⟩) hBa).trans hca.cell) ((hW.cell (p:=⟨Bb,0,none⟩) hBb).trans hcb.cell) h0
end Go.Proofs.YtdpmbgomcjnohaaGreatDoor
