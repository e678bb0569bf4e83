/- The state that comes of a further matrix. -/
import Derived.Test.YtnilonnkcbkdmaaGreatDoorBbg

namespace Go.Proofs.YtnilonnkcbkdmaaGreatDoor
open Go.RowKit
set_option linter.all false
set_option maxRecDepth 100000
set_option maxHeartbeats 8000000
theorem Lf (N:Nat) (X:World):(Instr.fieldAt 82 (.pointer (some ⟨N,0,none⟩)) 0).run Tryz.prog X = .ok (.pointer (some ⟨N,0,none⟩)) X:=by go_simp
theorem yV (N:Nat) (X:World):(Instr.fieldAt 82 (.pointer (some ⟨N,0,none⟩)) 1).run Tryz.prog X = .ok (.pointer (some ⟨N,1,none⟩)) X:=by go_simp
theorem YD (N:Nat) (X:World):(Instr.fieldAt 82 (.pointer (some ⟨N,0,none⟩)) 2).run Tryz.prog X = .ok (.pointer (some ⟨N,2,none⟩)) X:=by go_simp
theorem ah7 (N:Nat) (X:World):(Instr.fieldAt 27 (.pointer (some ⟨N,0,none⟩)) 1).run Tryz.prog X = .ok (.pointer (some ⟨N,1,none⟩)) X:=by go_simp
theorem ah8 (N:Nat) (X:World):(Instr.fieldAt 27 (.pointer (some ⟨N,2,none⟩)) 1).run Tryz.prog X = .ok (.pointer (some ⟨N,3,none⟩)) X:=by go_simp
section
variable {L:List Oper} {K:List (Nat × Value)→World→Prop} {i m:Nat} {o:Oper} {x y:Operand} {r:List (Bool × Nat × Nat)} {l:List (Nat × Value)} {w:World}
theorem bV {N:Nat} {T T':TypeId} {cs cs':List Value} (hC:Cb w N T cs) (p:Nat) (part:List Value) (ho:Pl.nth L i=some o) (hp:o.op = .store T' x y) (hd:o.dst=none) (hg:o.guard=none) (hx:Pl.ig l x=some (.pointer (some ⟨N,p,none⟩))) (hy:Pl.ig l y=some (.agg part.toArray))
  (hi:(Tryz.prog.info? T').map (·.size)=some part.length) (hl:p+part.length≤cs.length) (h1:∀ v∈part,v.oneCell'=true) (nc:∀ c∈cs,dQ c) (np:∀ c∈part,dQ c) (hcs:uE cs p part=cs')
  (h:∀ w',Xt [N] w w'→Cb w' N T cs'→Pl.gY Tryz.prog L (fun _=>True) K r l w'):Pl.gY Tryz.prog L (fun _=>True) K ((false,i,m)::r) l w :=
 Pl.bT ho hp hd (by rw [hg];rfl) hx hy (Cb.A9 hC p part hl _ hi h1) trivial (h _ (Xt.uE _ _ hC nc np) (by rw [← hcs];exact Cb.uE part p hC))
end
theorem Ib.xt {w w':World} {N:Nat} {b:Bool} {m:Value} {Bs:List Nat} (h:Ib w N b m) (hX:Xt Bs w w') (hn:N∉Bs):Ib w' N b m:=Ib.kpB h (hX.block N h.1 hn) hX.kp.1
theorem Gd.four {w:World} {K:Nat} {cs:List Value} (h:Gd w K cs) (hl:cs.length=8):∃ b0 A0 n0 c0 b1 A1 n1 c1 b2 A2 n2 c2 b3 A3 n3 c3,cs=[.bool b0,.slice A0 n0 c0,.bool b1,.slice A1 n1 c1,.bool b2,.slice A2 n2 c2,.bool b3,.slice A3 n3 c3]:=by
 have one:∀ {cs:List Value} {n:Nat},Gd w K cs→cs.length=n+1→∃ b A k c l,cs = .bool b::.slice A k c::l∧Gd w K l∧l.length+1=n:=by
  intro cs n h hl
  match cs,h with
  | .bool b::.slice A k c::l,h=>exact ⟨b,A,k,c,l,rfl,h.2,by simpa using hl⟩
 obtain ⟨b0,A0,n0,c0,l0,rfl,h0,e0⟩:=one h hl
 obtain ⟨b1,A1,n1,c1,l1,rfl,h1,e1⟩:=one h0 (n:=5) (by omega)
 obtain ⟨b2,A2,n2,c2,l2,rfl,h2,e2⟩:=one h1 (n:=3) (by omega)
 obtain ⟨b3,A3,n3,c3,l3,rfl,h3,e3⟩:=one h2 (n:=1) (by omega)
 obtain rfl:l3=[]:=List.eq_nil_of_length_eq_zero (by omega)
 exact ⟨_,_,_,_,_,_,_,_,_,_,_,_,_,_,_,_,rfl⟩
theorem Gd.kp {w w':World} {K:Nat} (hk:Kp w w'):∀ {cs:List Value},Gd w K cs→Gd w' K cs
 | [],_=>trivial
 | .bool b::.slice A k c::l,h=>⟨h.1.elim fun z hz=>⟨z,Zn.kp hz.1 hk,hz.2⟩,Gd.kp hk h.2⟩
namespace EGJ
set_option linter.all false
set_option maxRecDepth 100000
set_option maxHeartbeats 8000000
theorem oC (u:Array Value) (X:World):(callFunc 44 u).run Tryz.prog X = .ok (.enter 44 u) X:=Pl.enters Tryz.func44 (by kernel_rfl) rfl u X
end EGJ
open EGJ
theorem Td (w:World) (Wj Ke:Option Addr) (Wl Kg:Nat) (p1:Bool) (A1:Option Addr) (n1 c1:Nat) (p2:Bool) (A2:Option Addr) (n2 c2:Nat) (a b:Nat) (bn:Un w (.slice Wj (limbs a).length Wl) a) (bC:Un w (.slice Ke (limbs b).length Kg) b) (h_o:Zn w (.agg #[.bool p1,.slice A1 n1 c1]) 1) (h_p:Zn w (.agg #[.bool p2,.slice A2 n2 c2]) 1) (hla:Sn a 90) (hlb:Sn b 90) (hab:a<b) :
  Calls Tryz.prog 88 #[.agg #[.slice Wj (limbs a).length Wl,.slice Ke (limbs b).length Kg,.bool p1,.slice A1 n1 c1,.bool false,.slice none 0 0,.bool false,.slice none 0 0,.bool p1,.slice A1 n1 c1],.agg #[.bool p2,.slice A2 n2 c2,.bool false,.slice none 0 0,.bool false,.slice none 0 0,.bool p2,.slice A2 n2 c2]] w fun e w'=>∃ Ax nx cx Ay ny cy cs,e = .returned (.agg (.slice Ax nx cx::.slice Ay ny cy::cs).toArray)∧Un w' (.slice Ax nx cx) b∧Un w' (.slice Ay ny cy) a∧Gd w' 3 cs∧cs.length=8∧Ext w w':=by
 refine Pl.aV (n:=80) (vs:=[.agg #[.slice Wj (limbs a).length Wl,.slice Ke (limbs b).length Kg,.bool p1,.slice A1 n1 c1,.bool false,.slice none 0 0,.bool false,.slice none 0 0,.bool p1,.slice A1 n1 c1],.agg #[.bool p2,.slice A2 n2 c2,.bool false,.slice none 0 0,.bool false,.slice none 0 0,.bool p2,.slice A2 n2 c2]]) Tryz.func88 rfl (by kernel_rfl) (by simp) ?_
 repeat refine Pl.az ?_
 refine Pl.ay (by kernel_rfl) ?_
 refine Ht (cs:=[.slice Wj (limbs a).length Wl,.slice Ke (limbs b).length Kg,.bool p1,.slice A1 n1 c1,.bool false,.slice none 0 0,.bool false,.slice none 0 0,.bool p1,.slice A1 n1 c1]) rfl rfl rfl rfl rfl (fun _ _=>trivial) ?_
 intro Ns w1 hB1 hNs k2
 refine Ht (cs:=[.bool p2,.slice A2 n2 c2,.bool false,.slice none 0 0,.bool false,.slice none 0 0,.bool p2,.slice A2 n2 c2]) rfl rfl rfl rfl rfl (fun _ _=>trivial) ?_
 intro Nm w2 hB2 hNm k3
 refine eH rfl rfl rfl rfl (z:=.agg ([.slice none 0 0,.slice none 0 0,.bool false,.slice none 0 0,.bool false,.slice none 0 0,.bool false,.slice none 0 0,.bool false,.slice none 0 0]:List Value).toArray) (by kernel_rfl) (fun _ _=>trivial) ?_
 intro Nr w3 hB3 hNr k4
 replace k4:Cb w3 Nr 82 [.slice none 0 0,.slice none 0 0,.bool false,.slice none 0 0,.bool false,.slice none 0 0,.bool false,.slice none 0 0,.bool false,.slice none 0 0]:=k4
 refine Pl.ak ?_
 have dsm:Ns<Nm:=Nat.lt_of_lt_of_le k2.lt hNm
 replace k2:=Cb.ext k2 hB2
 have dmr:Nm<Nr:=Nat.lt_of_lt_of_le k3.lt hNr
 replace k2:=Cb.ext k2 hB3
 replace k3:=Cb.ext k3 hB3
 have pE:=hB1.below (hB2.below hB3)
 have hlr:=k4.lt
 have hws:w.heap.size≤Ns:=hNs
 repeat refine Pl.az ?_
 refine Pl.nK (S:=fun X=>Ext w3 X) fo (Ext.drew (Ext.refl _)) ?_
 generalize w3.drew=w4
 intro hB4
 have pG:=hB4
 refine Pl.lm 2 255 (fun l' w'=>∃ (N_5:Nat) (N_6:Nat) (as0:Value) (as1:Value),l'=[(2,.pointer (some ⟨Ns,0,none⟩)),(3,.pointer (some ⟨Nm,0,none⟩)),(4,.pointer (some ⟨Nr,0,none⟩)),(5,.pointer (some ⟨N_5,0,none⟩)),(6,.pointer (some ⟨N_6,0,none⟩)),(11,as0),(14,as1)]∧Ext w3 w'∧w3.heap.size≤N_5∧Ib w' N_5 false (.slice none 0 0)∧w3.heap.size≤N_6∧Ib w' N_6 false (.slice none 0 0)∧Zn w' as0 ((a:Nat):Int)∧Zn w' as1 ((b:Nat):Int)∧N_5≠N_6) ?_ ?_
 rotate_left
 · intro hK
   refine Pl.aS [(true,0,0),(true,1,1),(true,3,3),(true,4,11)] 27 6 Pl.aD (by kernel_rfl) (by kernel_rfl) (by kernel_rfl) ?_
   refine bg pG rfl rfl rfl rfl rfl (Lf _) ?_
   refine Pl.aR pG rfl rfl rfl rfl rfl (fun X hX=>Cb.fO (j:=0) (Cb.ext k2 hX) rfl) ?_
   refine bg pG rfl rfl rfl rfl rfl (yV _) ?_
   refine Pl.aR pG rfl rfl rfl rfl rfl (fun X hX=>Cb.fO (j:=1) (Cb.ext k2 hX) rfl) ?_
   refine Pl.ak ?_
   refine Pl.dY [2,6,7] 5 (by kernel_rfl) (by kernel_rfl) (by kernel_rfl) (Pl.aJ ?_ (Pl.aJ ?_ (Pl.aJ ?_ Pl.aX)))
   · have gL:=Un.below bn (Ext.below hB1 (Ext.below hB2 (Ext.below hB3 hB4)))
     refine Pl.aA rfl rfl rfl rfl rfl oC ?_
     refine Calls.mono (iO _ _ a gL) ?_
     rintro e w5 ⟨uR,rfl,pR,bH⟩
     have hS5:=Ext.below pG bH
     refine ⟨_,rfl,hS5,?_⟩
     have qJ:Sz ((a:Nat):Int) 90:=Sn.sz hla
     refine Pl.ak ?_
     refine Pl.dY [5,6,7] 4 (by kernel_rfl) (by kernel_rfl) (by kernel_rfl) (Pl.aJ ?_ (Pl.aJ ?_ (Pl.aJ ?_ Pl.aX)))
     · have Bd:=Un.below bC (Ext.below hB1 (Ext.below hB2 (Ext.below hB3 (Ext.below hB4 bH))))
       refine Pl.aA rfl rfl rfl rfl rfl oC ?_
       refine Calls.mono (iO _ _ b Bd) ?_
       rintro e w6 ⟨uN,rfl,lg,aZ⟩
       have lJ:=Ext.below hS5 aZ
       refine ⟨_,rfl,lJ,?_⟩
       have iU:Sz ((b:Nat):Int) 90:=Sn.sz hlb
       refine Pl.ak ?_
       refine Pl.dY [6,7] 3 (by kernel_rfl) (by kernel_rfl) (by kernel_rfl) (Pl.aJ ?_ (Pl.aJ ?_ Pl.aX))
       · refine bI rfl rfl rfl rfl (fun _ k=>Ext.below lJ k) ?_
         intro N5 w7 bW H6 i_5
         have pF:=Ext.below lJ bW
         refine Pl.ak ?_
         refine Pl.aS [(false,7,127)] 255 2 Pl.aD (by kernel_rfl) (by kernel_rfl) (by kernel_rfl) ?_
         refine bI rfl rfl rfl rfl (fun _ k=>Ext.below pF k) ?_
         intro N6 w8 cB xZ i_6
         have oG:=Ext.below pF cB
         refine Pl.ak ?_
         have Te:=Ib.ext i_5 cB
         have oN:=Zn.below pR (Ext.below aZ (Ext.below bW cB))
         have nL:=Zn.below lg (Ext.below bW cB)
         exact Pl.bK [(2,.pointer (some ⟨Ns,0,none⟩)),(3,.pointer (some ⟨Nm,0,none⟩)),(4,.pointer (some ⟨Nr,0,none⟩)),(5,.pointer (some ⟨N5,0,none⟩)),(6,.pointer (some ⟨N6,0,none⟩)),(11,uR),(14,uN)] (Pl.aa rfl (Pl.aa rfl (Pl.aa rfl (Pl.aa rfl (Pl.aa rfl (Pl.aa rfl (Pl.aa rfl Pl.aK))))))) (hK _ _ ⟨N5,N6,uR,uN,rfl,(Ext.below hB4 (Ext.below bH (Ext.below aZ (Ext.below bW cB)))),(Nat.le_trans (Below.size (Ext.below hB4 (Ext.below bH aZ))) H6),Te,(Nat.le_trans (Below.size (Ext.below hB4 (Ext.below bH (Ext.below aZ bW)))) xZ),i_6,oN,nL,(Nat.ne_of_lt (Nat.lt_of_lt_of_le (i_5).1 xZ))⟩)
       · refine bI rfl rfl rfl rfl (fun _ k=>Ext.below lJ k) ?_
         intro N5 w7 bW H6 i_5
         have pF:=Ext.below lJ bW
         refine Pl.ak ?_
         refine Pl.aS [(false,6,191)] 255 2 Pl.aD (by kernel_rfl) (by kernel_rfl) (by kernel_rfl) ?_
         refine bI rfl rfl rfl rfl (fun _ k=>Ext.below pF k) ?_
         intro N6 w8 cB xZ i_6
         have oG:=Ext.below pF cB
         refine Pl.ak ?_
         have Te:=Ib.ext i_5 cB
         have oN:=Zn.below pR (Ext.below aZ (Ext.below bW cB))
         have nL:=Zn.below lg (Ext.below bW cB)
         exact Pl.bK [(2,.pointer (some ⟨Ns,0,none⟩)),(3,.pointer (some ⟨Nm,0,none⟩)),(4,.pointer (some ⟨Nr,0,none⟩)),(5,.pointer (some ⟨N6,0,none⟩)),(6,.pointer (some ⟨N5,0,none⟩)),(11,uR),(14,uN)] (Pl.aa rfl (Pl.aa rfl (Pl.aa rfl (Pl.aa rfl (Pl.aa rfl (Pl.aa rfl (Pl.aa rfl Pl.aK))))))) (hK _ _ ⟨N6,N5,uR,uN,rfl,(Ext.below hB4 (Ext.below bH (Ext.below aZ (Ext.below bW cB)))),(Nat.le_trans (Below.size (Ext.below hB4 (Ext.below bH (Ext.below aZ bW)))) xZ),i_6,(Nat.le_trans (Below.size (Ext.below hB4 (Ext.below bH aZ))) H6),Te,oN,nL,(Nat.ne_of_gt (Nat.lt_of_lt_of_le (i_5).1 xZ))⟩)
     · refine bI rfl rfl rfl rfl (fun _ k=>Ext.below hS5 k) ?_
       intro N3 w6 aZ acW i_3
       have lJ:=Ext.below hS5 aZ
       refine Pl.ak ?_
       refine Pl.dY [5,7] 3 (by kernel_rfl) (by kernel_rfl) (by kernel_rfl) (Pl.aJ ?_ (Pl.aJ ?_ Pl.aX))
       · have uF:=Un.below bC (Ext.below hB1 (Ext.below hB2 (Ext.below hB3 (Ext.below hB4 (Ext.below bH aZ)))))
         refine Pl.aA rfl rfl rfl rfl rfl oC ?_
         refine Calls.mono (iO _ _ b uF) ?_
         rintro e w7 ⟨rE,rfl,mY,bW⟩
         have pF:=Ext.below lJ bW
         refine ⟨_,rfl,pF,?_⟩
         have rF:Sz ((b:Nat):Int) 90:=Sn.sz hlb
         refine Pl.ak ?_
         refine Pl.aS [(false,7,127)] 255 2 Pl.aD (by kernel_rfl) (by kernel_rfl) (by kernel_rfl) ?_
         refine bI rfl rfl rfl rfl (fun _ k=>Ext.below pF k) ?_
         intro N6 w8 cB xZ i_6
         have oG:=Ext.below pF cB
         refine Pl.ak ?_
         have Be:=Ib.ext i_3 (Ext.below bW cB)
         have oN:=Zn.below pR (Ext.below aZ (Ext.below bW cB))
         have nM:=Zn.below mY cB
         exact Pl.bK [(2,.pointer (some ⟨Ns,0,none⟩)),(3,.pointer (some ⟨Nm,0,none⟩)),(4,.pointer (some ⟨Nr,0,none⟩)),(5,.pointer (some ⟨N3,0,none⟩)),(6,.pointer (some ⟨N6,0,none⟩)),(11,uR),(14,rE)] (Pl.aa rfl (Pl.aa rfl (Pl.aa rfl (Pl.aa rfl (Pl.aa rfl (Pl.aa rfl (Pl.aa rfl Pl.aK))))))) (hK _ _ ⟨N3,N6,uR,rE,rfl,(Ext.below hB4 (Ext.below bH (Ext.below aZ (Ext.below bW cB)))),(Nat.le_trans (Below.size (Ext.below hB4 bH)) acW),Be,(Nat.le_trans (Below.size (Ext.below hB4 (Ext.below bH (Ext.below aZ bW)))) xZ),i_6,oN,nM,(Nat.ne_of_lt (Nat.lt_of_lt_of_le (Ib.ext i_3 bW).1 xZ))⟩)
       · refine bI rfl rfl rfl rfl (fun _ k=>Ext.below lJ k) ?_
         intro N4 w7 bW Bf Tf
         have pF:=Ext.below lJ bW
         refine Pl.ak ?_
         refine Pl.aS [(false,5,223)] 255 2 Pl.aD (by kernel_rfl) (by kernel_rfl) (by kernel_rfl) ?_
         have sH:=Un.below bC (Ext.below hB1 (Ext.below hB2 (Ext.below hB3 (Ext.below hB4 (Ext.below bH (Ext.below aZ bW))))))
         refine Pl.aA rfl rfl rfl rfl rfl oC ?_
         refine Calls.mono (iO _ _ b sH) ?_
         rintro e w8 ⟨nQ,rfl,tq,cB⟩
         have oG:=Ext.below pF cB
         refine ⟨_,rfl,oG,?_⟩
         have oD:Sz ((b:Nat):Int) 90:=Sn.sz hlb
         refine Pl.ak ?_
         have Be:=Ib.ext i_3 (Ext.below bW cB)
         have Bg:=Ib.ext Tf cB
         have oN:=Zn.below pR (Ext.below aZ (Ext.below bW cB))
         exact Pl.bK [(2,.pointer (some ⟨Ns,0,none⟩)),(3,.pointer (some ⟨Nm,0,none⟩)),(4,.pointer (some ⟨Nr,0,none⟩)),(5,.pointer (some ⟨N3,0,none⟩)),(6,.pointer (some ⟨N4,0,none⟩)),(11,uR),(14,nQ)] (Pl.aa rfl (Pl.aa rfl (Pl.aa rfl (Pl.aa rfl (Pl.aa rfl (Pl.aa rfl (Pl.aa rfl Pl.aK))))))) (hK _ _ ⟨N3,N4,uR,nQ,rfl,(Ext.below hB4 (Ext.below bH (Ext.below aZ (Ext.below bW cB)))),(Nat.le_trans (Below.size (Ext.below hB4 bH)) acW),Be,(Nat.le_trans (Below.size (Ext.below hB4 (Ext.below bH aZ))) Bf),Bg,oN,tq,(Nat.ne_of_lt (Nat.lt_of_lt_of_le (i_3).1 Bf))⟩)
     · refine bI rfl rfl rfl rfl (fun _ k=>Ext.below hS5 k) ?_
       intro N3 w6 aZ acW i_3
       have lJ:=Ext.below hS5 aZ
       refine Pl.ak ?_
       refine Pl.dY [5,6] 3 (by kernel_rfl) (by kernel_rfl) (by kernel_rfl) (Pl.aJ ?_ (Pl.aJ ?_ Pl.aX))
       · have uF:=Un.below bC (Ext.below hB1 (Ext.below hB2 (Ext.below hB3 (Ext.below hB4 (Ext.below bH aZ)))))
         refine Pl.aA rfl rfl rfl rfl rfl oC ?_
         refine Calls.mono (iO _ _ b uF) ?_
         rintro e w7 ⟨rE,rfl,mY,bW⟩
         have pF:=Ext.below lJ bW
         refine ⟨_,rfl,pF,?_⟩
         have rF:Sz ((b:Nat):Int) 90:=Sn.sz hlb
         refine Pl.ak ?_
         refine Pl.aS [(false,6,191)] 255 2 Pl.aD (by kernel_rfl) (by kernel_rfl) (by kernel_rfl) ?_
         refine bI rfl rfl rfl rfl (fun _ k=>Ext.below pF k) ?_
         intro N6 w8 cB xZ i_6
         have oG:=Ext.below pF cB
         refine Pl.ak ?_
         have Be:=Ib.ext i_3 (Ext.below bW cB)
         have oN:=Zn.below pR (Ext.below aZ (Ext.below bW cB))
         have nM:=Zn.below mY cB
         exact Pl.bK [(2,.pointer (some ⟨Ns,0,none⟩)),(3,.pointer (some ⟨Nm,0,none⟩)),(4,.pointer (some ⟨Nr,0,none⟩)),(5,.pointer (some ⟨N6,0,none⟩)),(6,.pointer (some ⟨N3,0,none⟩)),(11,uR),(14,rE)] (Pl.aa rfl (Pl.aa rfl (Pl.aa rfl (Pl.aa rfl (Pl.aa rfl (Pl.aa rfl (Pl.aa rfl Pl.aK))))))) (hK _ _ ⟨N6,N3,uR,rE,rfl,(Ext.below hB4 (Ext.below bH (Ext.below aZ (Ext.below bW cB)))),(Nat.le_trans (Below.size (Ext.below hB4 (Ext.below bH (Ext.below aZ bW)))) xZ),i_6,(Nat.le_trans (Below.size (Ext.below hB4 bH)) acW),Be,oN,nM,(Nat.ne_of_gt (Nat.lt_of_lt_of_le (Ib.ext i_3 bW).1 xZ))⟩)
       · refine bI rfl rfl rfl rfl (fun _ k=>Ext.below lJ k) ?_
         intro N4 w7 bW Bf Tf
         have pF:=Ext.below lJ bW
         refine Pl.ak ?_
         refine Pl.aS [(false,5,223)] 255 2 Pl.aD (by kernel_rfl) (by kernel_rfl) (by kernel_rfl) ?_
         have sH:=Un.below bC (Ext.below hB1 (Ext.below hB2 (Ext.below hB3 (Ext.below hB4 (Ext.below bH (Ext.below aZ bW))))))
         refine Pl.aA rfl rfl rfl rfl rfl oC ?_
         refine Calls.mono (iO _ _ b sH) ?_
         rintro e w8 ⟨nQ,rfl,tq,cB⟩
         have oG:=Ext.below pF cB
         refine ⟨_,rfl,oG,?_⟩
         have oD:Sz ((b:Nat):Int) 90:=Sn.sz hlb
         refine Pl.ak ?_
         have Bg:=Ib.ext Tf cB
         have Be:=Ib.ext i_3 (Ext.below bW cB)
         have oN:=Zn.below pR (Ext.below aZ (Ext.below bW cB))
         exact Pl.bK [(2,.pointer (some ⟨Ns,0,none⟩)),(3,.pointer (some ⟨Nm,0,none⟩)),(4,.pointer (some ⟨Nr,0,none⟩)),(5,.pointer (some ⟨N4,0,none⟩)),(6,.pointer (some ⟨N3,0,none⟩)),(11,uR),(14,nQ)] (Pl.aa rfl (Pl.aa rfl (Pl.aa rfl (Pl.aa rfl (Pl.aa rfl (Pl.aa rfl (Pl.aa rfl Pl.aK))))))) (hK _ _ ⟨N4,N3,uR,nQ,rfl,(Ext.below hB4 (Ext.below bH (Ext.below aZ (Ext.below bW cB)))),(Nat.le_trans (Below.size (Ext.below hB4 (Ext.below bH aZ))) Bf),Bg,(Nat.le_trans (Below.size (Ext.below hB4 bH)) acW),Be,oN,tq,(Nat.ne_of_gt (Nat.lt_of_lt_of_le (i_3).1 Bf))⟩)
   · refine bI rfl rfl rfl rfl (fun _ k=>Ext.below pG k) ?_
     intro N1 w5 bH Gs i_1
     have hS5:=Ext.below pG bH
     refine Pl.ak ?_
     refine Pl.dY [2,7] 4 (by kernel_rfl) (by kernel_rfl) (by kernel_rfl) (Pl.aJ ?_ (Pl.aJ ?_ Pl.aX))
     · have lX:=Un.below bn (Ext.below hB1 (Ext.below hB2 (Ext.below hB3 (Ext.below hB4 bH))))
       refine Pl.aA rfl rfl rfl rfl rfl oC ?_
       refine Calls.mono (iO _ _ a lX) ?_
       rintro e w6 ⟨kH,rfl,kZ,aZ⟩
       have lJ:=Ext.below hS5 aZ
       refine ⟨_,rfl,lJ,?_⟩
       have lK:Sz ((a:Nat):Int) 90:=Sn.sz hla
       refine Pl.ak ?_
       refine Pl.dY [5,7] 3 (by kernel_rfl) (by kernel_rfl) (by kernel_rfl) (Pl.aJ ?_ (Pl.aJ ?_ Pl.aX))
       · have uF:=Un.below bC (Ext.below hB1 (Ext.below hB2 (Ext.below hB3 (Ext.below hB4 (Ext.below bH aZ)))))
         refine Pl.aA rfl rfl rfl rfl rfl oC ?_
         refine Calls.mono (iO _ _ b uF) ?_
         rintro e w7 ⟨rE,rfl,mY,bW⟩
         have pF:=Ext.below lJ bW
         refine ⟨_,rfl,pF,?_⟩
         have rF:Sz ((b:Nat):Int) 90:=Sn.sz hlb
         refine Pl.ak ?_
         refine Pl.aS [(false,7,127)] 255 2 Pl.aD (by kernel_rfl) (by kernel_rfl) (by kernel_rfl) ?_
         refine bI rfl rfl rfl rfl (fun _ k=>Ext.below pF k) ?_
         intro N6 w8 cB xZ i_6
         have oG:=Ext.below pF cB
         refine Pl.ak ?_
         have sI:=Ib.ext i_1 (Ext.below aZ (Ext.below bW cB))
         have wh:=Zn.below kZ (Ext.below bW cB)
         have nM:=Zn.below mY cB
         exact Pl.bK [(2,.pointer (some ⟨Ns,0,none⟩)),(3,.pointer (some ⟨Nm,0,none⟩)),(4,.pointer (some ⟨Nr,0,none⟩)),(5,.pointer (some ⟨N1,0,none⟩)),(6,.pointer (some ⟨N6,0,none⟩)),(11,kH),(14,rE)] (Pl.aa rfl (Pl.aa rfl (Pl.aa rfl (Pl.aa rfl (Pl.aa rfl (Pl.aa rfl (Pl.aa rfl Pl.aK))))))) (hK _ _ ⟨N1,N6,kH,rE,rfl,(Ext.below hB4 (Ext.below bH (Ext.below aZ (Ext.below bW cB)))),(Nat.le_trans (Below.size hB4) Gs),sI,(Nat.le_trans (Below.size (Ext.below hB4 (Ext.below bH (Ext.below aZ bW)))) xZ),i_6,wh,nM,(Nat.ne_of_lt (Nat.lt_of_lt_of_le (Ib.ext i_1 (Ext.below aZ bW)).1 xZ))⟩)
       · refine bI rfl rfl rfl rfl (fun _ k=>Ext.below lJ k) ?_
         intro N4 w7 bW Bf Tf
         have pF:=Ext.below lJ bW
         refine Pl.ak ?_
         refine Pl.aS [(false,5,223)] 255 2 Pl.aD (by kernel_rfl) (by kernel_rfl) (by kernel_rfl) ?_
         have sH:=Un.below bC (Ext.below hB1 (Ext.below hB2 (Ext.below hB3 (Ext.below hB4 (Ext.below bH (Ext.below aZ bW))))))
         refine Pl.aA rfl rfl rfl rfl rfl oC ?_
         refine Calls.mono (iO _ _ b sH) ?_
         rintro e w8 ⟨nQ,rfl,tq,cB⟩
         have oG:=Ext.below pF cB
         refine ⟨_,rfl,oG,?_⟩
         have oD:Sz ((b:Nat):Int) 90:=Sn.sz hlb
         refine Pl.ak ?_
         have sI:=Ib.ext i_1 (Ext.below aZ (Ext.below bW cB))
         have Bg:=Ib.ext Tf cB
         have wh:=Zn.below kZ (Ext.below bW cB)
         exact Pl.bK [(2,.pointer (some ⟨Ns,0,none⟩)),(3,.pointer (some ⟨Nm,0,none⟩)),(4,.pointer (some ⟨Nr,0,none⟩)),(5,.pointer (some ⟨N1,0,none⟩)),(6,.pointer (some ⟨N4,0,none⟩)),(11,kH),(14,nQ)] (Pl.aa rfl (Pl.aa rfl (Pl.aa rfl (Pl.aa rfl (Pl.aa rfl (Pl.aa rfl (Pl.aa rfl Pl.aK))))))) (hK _ _ ⟨N1,N4,kH,nQ,rfl,(Ext.below hB4 (Ext.below bH (Ext.below aZ (Ext.below bW cB)))),(Nat.le_trans (Below.size hB4) Gs),sI,(Nat.le_trans (Below.size (Ext.below hB4 (Ext.below bH aZ))) Bf),Bg,wh,tq,(Nat.ne_of_lt (Nat.lt_of_lt_of_le (Ib.ext i_1 aZ).1 Bf))⟩)
     · refine bI rfl rfl rfl rfl (fun _ k=>Ext.below hS5 k) ?_
       intro N2 w6 aZ Dp i_2
       have lJ:=Ext.below hS5 aZ
       refine Pl.ak ?_
       refine Pl.aS [(false,2,219),(false,5,223)] 255 2 Pl.aD (by kernel_rfl) (by kernel_rfl) (by kernel_rfl) ?_
       have qK:=Un.below bn (Ext.below hB1 (Ext.below hB2 (Ext.below hB3 (Ext.below hB4 (Ext.below bH aZ)))))
       refine Pl.aA rfl rfl rfl rfl rfl oC ?_
       refine Calls.mono (iO _ _ a qK) ?_
       rintro e w7 ⟨uN,rfl,lg,bW⟩
       have pF:=Ext.below lJ bW
       refine ⟨_,rfl,pF,?_⟩
       have iU:Sz ((a:Nat):Int) 90:=Sn.sz hla
       have sH:=Un.below bC (Ext.below hB1 (Ext.below hB2 (Ext.below hB3 (Ext.below hB4 (Ext.below bH (Ext.below aZ bW))))))
       refine Pl.aA rfl rfl rfl rfl rfl oC ?_
       refine Calls.mono (iO _ _ b sH) ?_
       rintro e w8 ⟨nQ,rfl,tq,cB⟩
       have oG:=Ext.below pF cB
       refine ⟨_,rfl,oG,?_⟩
       have oD:Sz ((b:Nat):Int) 90:=Sn.sz hlb
       refine Pl.ak ?_
       have sI:=Ib.ext i_1 (Ext.below aZ (Ext.below bW cB))
       have Tg:=Ib.ext i_2 (Ext.below bW cB)
       have nL:=Zn.below lg cB
       exact Pl.bK [(2,.pointer (some ⟨Ns,0,none⟩)),(3,.pointer (some ⟨Nm,0,none⟩)),(4,.pointer (some ⟨Nr,0,none⟩)),(5,.pointer (some ⟨N1,0,none⟩)),(6,.pointer (some ⟨N2,0,none⟩)),(11,uN),(14,nQ)] (Pl.aa rfl (Pl.aa rfl (Pl.aa rfl (Pl.aa rfl (Pl.aa rfl (Pl.aa rfl (Pl.aa rfl Pl.aK))))))) (hK _ _ ⟨N1,N2,uN,nQ,rfl,(Ext.below hB4 (Ext.below bH (Ext.below aZ (Ext.below bW cB)))),(Nat.le_trans (Below.size hB4) Gs),sI,(Nat.le_trans (Below.size (Ext.below hB4 bH)) Dp),Tg,nL,tq,(Nat.ne_of_lt (Nat.lt_of_lt_of_le (i_1).1 Dp))⟩)
   · refine bI rfl rfl rfl rfl (fun _ k=>Ext.below pG k) ?_
     intro N1 w5 bH Gs i_1
     have hS5:=Ext.below pG bH
     refine Pl.ak ?_
     refine Pl.dY [2,6] 4 (by kernel_rfl) (by kernel_rfl) (by kernel_rfl) (Pl.aJ ?_ (Pl.aJ ?_ Pl.aX))
     · have lX:=Un.below bn (Ext.below hB1 (Ext.below hB2 (Ext.below hB3 (Ext.below hB4 bH))))
       refine Pl.aA rfl rfl rfl rfl rfl oC ?_
       refine Calls.mono (iO _ _ a lX) ?_
       rintro e w6 ⟨kH,rfl,kZ,aZ⟩
       have lJ:=Ext.below hS5 aZ
       refine ⟨_,rfl,lJ,?_⟩
       have lK:Sz ((a:Nat):Int) 90:=Sn.sz hla
       refine Pl.ak ?_
       refine Pl.dY [5,6] 3 (by kernel_rfl) (by kernel_rfl) (by kernel_rfl) (Pl.aJ ?_ (Pl.aJ ?_ Pl.aX))
       · have uF:=Un.below bC (Ext.below hB1 (Ext.below hB2 (Ext.below hB3 (Ext.below hB4 (Ext.below bH aZ)))))
         refine Pl.aA rfl rfl rfl rfl rfl oC ?_
         refine Calls.mono (iO _ _ b uF) ?_
         rintro e w7 ⟨rE,rfl,mY,bW⟩
         have pF:=Ext.below lJ bW
         refine ⟨_,rfl,pF,?_⟩
         have rF:Sz ((b:Nat):Int) 90:=Sn.sz hlb
         refine Pl.ak ?_
         refine Pl.aS [(false,6,191)] 255 2 Pl.aD (by kernel_rfl) (by kernel_rfl) (by kernel_rfl) ?_
         refine bI rfl rfl rfl rfl (fun _ k=>Ext.below pF k) ?_
         intro N6 w8 cB xZ i_6
         have oG:=Ext.below pF cB
         refine Pl.ak ?_
         have sI:=Ib.ext i_1 (Ext.below aZ (Ext.below bW cB))
         have wh:=Zn.below kZ (Ext.below bW cB)
         have nM:=Zn.below mY cB
         exact Pl.bK [(2,.pointer (some ⟨Ns,0,none⟩)),(3,.pointer (some ⟨Nm,0,none⟩)),(4,.pointer (some ⟨Nr,0,none⟩)),(5,.pointer (some ⟨N6,0,none⟩)),(6,.pointer (some ⟨N1,0,none⟩)),(11,kH),(14,rE)] (Pl.aa rfl (Pl.aa rfl (Pl.aa rfl (Pl.aa rfl (Pl.aa rfl (Pl.aa rfl (Pl.aa rfl Pl.aK))))))) (hK _ _ ⟨N6,N1,kH,rE,rfl,(Ext.below hB4 (Ext.below bH (Ext.below aZ (Ext.below bW cB)))),(Nat.le_trans (Below.size (Ext.below hB4 (Ext.below bH (Ext.below aZ bW)))) xZ),i_6,(Nat.le_trans (Below.size hB4) Gs),sI,wh,nM,(Nat.ne_of_gt (Nat.lt_of_lt_of_le (Ib.ext i_1 (Ext.below aZ bW)).1 xZ))⟩)
       · refine bI rfl rfl rfl rfl (fun _ k=>Ext.below lJ k) ?_
         intro N4 w7 bW Bf Tf
         have pF:=Ext.below lJ bW
         refine Pl.ak ?_
         refine Pl.aS [(false,5,223)] 255 2 Pl.aD (by kernel_rfl) (by kernel_rfl) (by kernel_rfl) ?_
         have sH:=Un.below bC (Ext.below hB1 (Ext.below hB2 (Ext.below hB3 (Ext.below hB4 (Ext.below bH (Ext.below aZ bW))))))
         refine Pl.aA rfl rfl rfl rfl rfl oC ?_
         refine Calls.mono (iO _ _ b sH) ?_
         rintro e w8 ⟨nQ,rfl,tq,cB⟩
         have oG:=Ext.below pF cB
         refine ⟨_,rfl,oG,?_⟩
         have oD:Sz ((b:Nat):Int) 90:=Sn.sz hlb
         refine Pl.ak ?_
         have Bg:=Ib.ext Tf cB
         have sI:=Ib.ext i_1 (Ext.below aZ (Ext.below bW cB))
         have wh:=Zn.below kZ (Ext.below bW cB)
         exact Pl.bK [(2,.pointer (some ⟨Ns,0,none⟩)),(3,.pointer (some ⟨Nm,0,none⟩)),(4,.pointer (some ⟨Nr,0,none⟩)),(5,.pointer (some ⟨N4,0,none⟩)),(6,.pointer (some ⟨N1,0,none⟩)),(11,kH),(14,nQ)] (Pl.aa rfl (Pl.aa rfl (Pl.aa rfl (Pl.aa rfl (Pl.aa rfl (Pl.aa rfl (Pl.aa rfl Pl.aK))))))) (hK _ _ ⟨N4,N1,kH,nQ,rfl,(Ext.below hB4 (Ext.below bH (Ext.below aZ (Ext.below bW cB)))),(Nat.le_trans (Below.size (Ext.below hB4 (Ext.below bH aZ))) Bf),Bg,(Nat.le_trans (Below.size hB4) Gs),sI,wh,tq,(Nat.ne_of_gt (Nat.lt_of_lt_of_le (Ib.ext i_1 aZ).1 Bf))⟩)
     · refine bI rfl rfl rfl rfl (fun _ k=>Ext.below hS5 k) ?_
       intro N2 w6 aZ Dp i_2
       have lJ:=Ext.below hS5 aZ
       refine Pl.ak ?_
       refine Pl.aS [(false,2,219),(false,5,223)] 255 2 Pl.aD (by kernel_rfl) (by kernel_rfl) (by kernel_rfl) ?_
       have qK:=Un.below bn (Ext.below hB1 (Ext.below hB2 (Ext.below hB3 (Ext.below hB4 (Ext.below bH aZ)))))
       refine Pl.aA rfl rfl rfl rfl rfl oC ?_
       refine Calls.mono (iO _ _ a qK) ?_
       rintro e w7 ⟨uN,rfl,lg,bW⟩
       have pF:=Ext.below lJ bW
       refine ⟨_,rfl,pF,?_⟩
       have iU:Sz ((a:Nat):Int) 90:=Sn.sz hla
       have sH:=Un.below bC (Ext.below hB1 (Ext.below hB2 (Ext.below hB3 (Ext.below hB4 (Ext.below bH (Ext.below aZ bW))))))
       refine Pl.aA rfl rfl rfl rfl rfl oC ?_
       refine Calls.mono (iO _ _ b sH) ?_
       rintro e w8 ⟨nQ,rfl,tq,cB⟩
       have oG:=Ext.below pF cB
       refine ⟨_,rfl,oG,?_⟩
       have oD:Sz ((b:Nat):Int) 90:=Sn.sz hlb
       refine Pl.ak ?_
       have Tg:=Ib.ext i_2 (Ext.below bW cB)
       have sI:=Ib.ext i_1 (Ext.below aZ (Ext.below bW cB))
       have nL:=Zn.below lg cB
       exact Pl.bK [(2,.pointer (some ⟨Ns,0,none⟩)),(3,.pointer (some ⟨Nm,0,none⟩)),(4,.pointer (some ⟨Nr,0,none⟩)),(5,.pointer (some ⟨N2,0,none⟩)),(6,.pointer (some ⟨N1,0,none⟩)),(11,uN),(14,nQ)] (Pl.aa rfl (Pl.aa rfl (Pl.aa rfl (Pl.aa rfl (Pl.aa rfl (Pl.aa rfl (Pl.aa rfl Pl.aK))))))) (hK _ _ ⟨N2,N1,uN,nQ,rfl,(Ext.below hB4 (Ext.below bH (Ext.below aZ (Ext.below bW cB)))),(Nat.le_trans (Below.size (Ext.below hB4 bH)) Dp),Tg,(Nat.le_trans (Below.size hB4) Gs),sI,nL,tq,(Nat.ne_of_gt (Nat.lt_of_lt_of_le (i_1).1 Dp))⟩)
 rintro _ aFV ⟨DU,DV,aqg,aqh,rfl,aki,Cm,acX,Cn,acY,Lg,YE,uW⟩
 have akj:=aki
 have qJ:Sz ((a:Nat):Int) 90:=Sn.sz hla
 have iU:Sz ((b:Nat):Int) 90:=Sn.sz hlb
 refine Pl.aS [(false,8,255),(false,9,511)] 1023 0 Pl.aD (by kernel_rfl) (by kernel_rfl) (by kernel_rfl) ?_
 obtain ⟨yX,yY,yZ,y5,rfl⟩:=Zn.sh Lg
 refine iP rfl rfl rfl rfl rfl rfl acX (fun _ T=>T _ akj (Nat.le_trans (Below.size (Ext.refl w3)) Cm)) ?_
 intro aFW acZ ac0 am3 as2
 have as3:=acZ _ aki (Nat.le_trans (Below.size (Ext.refl w3)) Cm)
 have akk:=acZ _ akj (Nat.le_trans (Below.size (Ext.refl w3)) Cm)
 have Kn:=am3 _ _ _ (Ne.symm uW) acY
 have H7:=ac0 _ _ Lg
 have yc:=ac0 _ _ YE
 obtain ⟨y7,y8,y9,za,rfl⟩:=Zn.sh yc
 refine iP rfl rfl rfl rfl rfl rfl Kn (fun _ T=>T _ akk (Nat.le_trans (Below.size (Ext.refl w3)) Cn)) ?_
 intro ayD ac1 ac2 am4 as4
 have Gy:=ac1 _ as3 (Nat.le_trans (Below.size (Ext.refl w3)) Cn)
 have abz:=ac1 _ akk (Nat.le_trans (Below.size (Ext.refl w3)) Cn)
 have H8:=ac2 _ _ H7
 have Ti:=am4 _ _ _ uW as2
 have H9:=ac2 _ _ yc
 refine Pl.ak ?_
 refine Pl.G_V (by kernel_rfl) ?_
 have Wm:=pE.below Gy
 have h5:=Ti
 have h6:=as4
 have hza:=H8
 have hzb:=H9
 replace k2:=Cb.ext k2 Gy
 replace k3:=Cb.ext k3 Gy
 replace k4:=Cb.ext k4 Gy
 have Lh:=Zn.below h_o Wm
 have Li:=Zn.below h_p Wm
 have d5:Nr<DU:=Nat.lt_of_lt_of_le (show Nr<w3.heap.size from hlr) Cm
 have d6:Nr<DV:=Nat.lt_of_lt_of_le (show Nr<w3.heap.size from hlr) Cn
 repeat refine Pl.az ?_
 refine Pl.ay (by kernel_rfl) ?_
 refine eH rfl rfl rfl rfl (z:=.agg ([.bool false,.slice none 0 0,.bool false,.slice none 0 0]:List Value).toArray) (by kernel_rfl) (fun _ _=>trivial) ?_
 intro No v0 qX hNo ko
 replace ko:Cb v0 No 78 [.bool false,.slice none 0 0,.bool false,.slice none 0 0]:=ko
 refine Pl.ak ?_
 have d5o:DU<No:=Nat.lt_of_lt_of_le h5.1 hNo
 have d6o:DV<No:=Nat.lt_of_lt_of_le h6.1 hNo
 replace k2:=Cb.ext k2 qX
 replace k3:=Cb.ext k3 qX
 replace k4:=Cb.ext k4 qX
 replace h5:=Ib.ext h5 qX
 replace h6:=Ib.ext h6 qX
 replace hza:=Zn.below hza qX
 replace hzb:=Zn.below hzb qX
 replace Lh:=Zn.below Lh qX
 replace Li:=Zn.below Li qX
 have hE:=Wm.below qX
 clear Wm
 repeat refine Pl.az ?_
 refine Pl.ay (by kernel_rfl) ?_
 refine Pl.ah trivial rfl rfl rfl rfl rfl ?_
 refine Pl.ak ?_
 repeat refine Pl.az ?_
 repeat refine Pl.az ?_
 refine Pl.cK ?_
 refine Pl.uU 2 ?_
 refine Pl.xX ?_
 repeat refine Pl.az ?_
 refine Pl.ay (by kernel_rfl) ?_
 refine Pl.aI (v:=.bool true) trivial rfl rfl rfl rfl rfl rfl (fun X=>jw (by decide) X) ?_
 refine Pl.ak ?_
 repeat refine Pl.az ?_
 refine Pl.dh rfl ?_
 repeat refine Pl.az ?_
 refine Pl.bN ?_
 repeat refine Pl.az ?_
 refine Pl.cK ?_
 repeat refine Pl.az ?_
 refine Pl.ay (by kernel_rfl) ?_
 refine Pl.ah trivial rfl rfl rfl rfl rfl ?_
 refine Pl.aj trivial rfl rfl rfl rfl rfl ?_
 refine Pl.ak ?_
 repeat refine Pl.az ?_
 refine Pl.iN (S:=fun X=>Cb X Nm 80 [.bool p2,.slice A2 n2 c2,.bool false,.slice none 0 0,.bool false,.slice none 0 0,.bool p2,.slice A2 n2 c2]∧Ib X DU yX (.slice yY yZ y5)∧Ib X DV y7 (.slice y8 y9 za)) [(true,0,0),(true,1,1),(true,2,3),(true,3,7),(true,4,15),(true,5,31),(false,6,63),(true,7,127),(false,8,255)] fo (by repeat first | exact Pl.aD | refine Pl.gW ?_ | refine Pl.jc ?_ | refine Pl.mW ?_) (by kernel_rfl) ⟨Cb.ext k3 (Ext.drew (Ext.refl _)),Ib.ext h5 (Ext.drew (Ext.refl _)),Ib.ext h6 (Ext.drew (Ext.refl _))⟩ ?_
 have hD0:=Ext.drew (Ext.refl v0)
 generalize v0.drew=x0 at *
 intro hS0
 refine Pl.ah hS0 rfl rfl rfl rfl rfl ?_
 refine Pl.ah hS0 rfl rfl rfl rfl rfl ?_
 refine aP hS0 rfl rfl rfl rfl rfl rfl (vY _) ?_
 refine Pl.aR hS0 rfl rfl rfl rfl rfl (fun X hX=>Cb.bJ hX.1 0 [.bool p2,.slice A2 n2 c2,.bool false,.slice none 0 0] rfl _ _ rfl rfl (by kernel_rfl)) ?_
 refine Pl.aR hS0 rfl rfl rfl rfl rfl (fun X hX=>Ib.load hX.2.1) ?_
 refine Pl.aR hS0 rfl rfl rfl rfl rfl (fun X hX=>Ib.load hX.2.2) ?_
 refine Pl.aA rfl rfl rfl rfl rfl (fun u X=>Pl.enters Tryz.func110 (by kernel_rfl) rfl u X) ?_
 refine Calls.mono (pU _ _ _ _ _ 1 _ _ _ _ 0 _ _ _ _ (a:Int) _ _ _ _ (b:Int) (Zn.below Li hD0) (Sz.lit (by decide) (by decide)) (Zn.nil _) (Sz.lit (by decide) (by decide)) (Zn.below hza hD0) ((Sn.sz hla).le (by decide)) (Zn.below hzb hD0) ((Sn.sz hlb).le (by decide))) ?_
 rintro e y0 ⟨jA,ji,jk,jl,rfl,hr0,hC0⟩
 have hT0:Cb y0 Nm 80 [.bool p2,.slice A2 n2 c2,.bool false,.slice none 0 0,.bool false,.slice none 0 0,.bool p2,.slice A2 n2 c2]∧Ib y0 DU yX (.slice yY yZ y5)∧Ib y0 DV y7 (.slice y8 y9 za):=⟨Cb.ext hS0.1 hC0,Ib.ext hS0.2.1 hC0,Ib.ext hS0.2.2 hC0⟩
 have hG0:=hD0.below hC0
 have am5:=Cb.ext ko hG0
 refine ⟨_,rfl,hT0,?_⟩
 refine aP hT0 rfl rfl rfl rfl rfl rfl (fA _) ?_
 have Tj:Xt [No] y0 (y0.setCells No 0 [.bool jA,.slice ji jk jl]):=Xt.uE _ _ am5 (aF (aF aN)) (aF aN)
 refine Pl.bT rfl rfl rfl rfl rfl rfl (Cb.A9 am5 0 [.bool jA,.slice ji jk jl] (by simp) _ (by kernel_rfl) (by simp [Value.oneCell'])) ⟨Tj.cb hT0.1 (by simp;omega),Ib.xt hT0.2.1 Tj (by simp;omega),Ib.xt hT0.2.2 Tj (by simp;omega)⟩ ?_
 have azn:Cb (y0.setCells No 0 [.bool jA,.slice ji jk jl]) No 78 [.bool jA,.slice ji jk jl,.bool false,.slice none 0 0]:=Cb.uE [.bool jA,.slice ji jk jl] 0 am5
 generalize y0.setCells No 0 [.bool jA,.slice ji jk jl]=v1 at *
 refine Pl.ak ?_
 have xy0:Xt [No] v0 v1:=(Xt.ext hG0).trans Tj
 replace k2:=xy0.cb k2 (by simp;omega)
 replace k3:=xy0.cb k3 (by simp;omega)
 replace k4:=xy0.cb k4 (by simp;omega)
 replace h5:=Ib.xt h5 xy0 (by simp;omega)
 replace h6:=Ib.xt h6 xy0 (by simp;omega)
 replace hza:=Zn.kp hza xy0.kp
 replace hzb:=Zn.kp hzb xy0.kp
 replace Lh:=Zn.kp Lh xy0.kp
 replace Li:=Zn.kp Li xy0.kp
 replace ko:=azn
 replace hE:=hE.xt xy0 (by simp;have:=hB1.size;omega)
 replace hr0:=Zn.kp hr0 Tj.kp
 rw [show (1:Int)*(a:Int)+0*(b:Int)=(a:Int) from by omega] at hr0
 have azo:¬ (Int.sign (a:Int))<0:=by have:=Int.sign_nonneg_iff.2 (show (0:Int)≤(a:Int) by omega);omega
 repeat refine Pl.az ?_
 refine Pl.ay (by kernel_rfl) ?_
 refine Pl.ah trivial rfl rfl rfl rfl rfl ?_
 refine aP trivial rfl rfl rfl rfl rfl rfl (fA _) ?_
 refine Pl.aH trivial rfl rfl rfl rfl rfl (Cb.bJ ko 0 [.bool jA,.slice ji jk jl] rfl _ _ rfl rfl (by kernel_rfl)) ?_
 refine Pl.aA rfl rfl rfl rfl rfl (fun u X=>Pl.enters Tryz.func111 (by kernel_rfl) rfl u X) ?_
 refine Calls.mono (Wn _ _ (a:Int) hr0 _ rfl) ?_
 rintro e t0 ⟨rfl,qj⟩
 refine ⟨_,rfl,trivial,?_⟩
 refine Pl.aI (v:=.bool false) trivial rfl rfl rfl rfl rfl rfl (fun X=>jw (decide_eq_false azo) X) ?_
 refine Pl.ak ?_
 replace k2:=Cb.ext k2 qj
 replace k3:=Cb.ext k3 qj
 replace k4:=Cb.ext k4 qj
 replace h5:=Ib.ext h5 qj
 replace h6:=Ib.ext h6 qj
 replace hza:=Zn.below hza qj
 replace hzb:=Zn.below hzb qj
 replace Lh:=Zn.below Lh qj
 replace Li:=Zn.below Li qj
 replace ko:=Cb.ext ko qj
 replace hE:=hE.below qj
 replace hr0:=Zn.below hr0 qj
 repeat refine Pl.az ?_
 refine Pl.bD rfl ?_
 repeat refine Pl.az ?_
 refine Pl.bN ?_
 refine Pl.bZ ?_
 repeat refine Pl.az ?_
 refine Pl.ay (by kernel_rfl) ?_
 refine Pl.aI (v:=.int .i64 1) trivial rfl rfl rfl rfl rfl rfl (fun X=>mM (by decide) (by decide) (by decide) X) ?_
 refine Pl.ah trivial rfl rfl rfl rfl rfl ?_
 refine Pl.ak ?_
 refine Pl.xY ?_
 refine Pl.xX ?_
 repeat refine Pl.az ?_
 refine Pl.ay (by kernel_rfl) ?_
 refine Pl.aI (v:=.bool true) trivial rfl rfl rfl rfl rfl rfl (fun X=>jw (by decide) X) ?_
 refine Pl.ak ?_
 repeat refine Pl.az ?_
 refine Pl.dh rfl ?_
 repeat refine Pl.az ?_
 refine Pl.bN ?_
 repeat refine Pl.az ?_
 refine Pl.cK ?_
 repeat refine Pl.az ?_
 refine Pl.ay (by kernel_rfl) ?_
 refine Pl.ah trivial rfl rfl rfl rfl rfl ?_
 refine Pl.aj trivial rfl rfl rfl rfl rfl ?_
 refine Pl.ak ?_
 repeat refine Pl.az ?_
 refine Pl.iN (S:=fun X=>Cb X Nm 80 [.bool p2,.slice A2 n2 c2,.bool false,.slice none 0 0,.bool false,.slice none 0 0,.bool p2,.slice A2 n2 c2]∧Ib X DU yX (.slice yY yZ y5)∧Ib X DV y7 (.slice y8 y9 za)) [(true,0,0),(true,1,1),(true,2,3),(true,3,7),(true,4,15),(true,5,31),(false,6,63),(true,7,127),(false,8,255)] fo (by repeat first | exact Pl.aD | refine Pl.gW ?_ | refine Pl.jc ?_ | refine Pl.mW ?_) (by kernel_rfl) ⟨Cb.ext k3 (Ext.drew (Ext.refl _)),Ib.ext h5 (Ext.drew (Ext.refl _)),Ib.ext h6 (Ext.drew (Ext.refl _))⟩ ?_
 have hD1:=Ext.drew (Ext.refl t0)
 generalize t0.drew=x1 at *
 intro hS1
 refine Pl.ah hS1 rfl rfl rfl rfl rfl ?_
 refine Pl.ah hS1 rfl rfl rfl rfl rfl ?_
 refine aP hS1 rfl rfl rfl rfl rfl rfl (vZ _) ?_
 refine Pl.aR hS1 rfl rfl rfl rfl rfl (fun X hX=>Cb.bJ hX.1 4 [.bool false,.slice none 0 0,.bool p2,.slice A2 n2 c2] rfl _ _ rfl rfl (by kernel_rfl)) ?_
 refine Pl.aR hS1 rfl rfl rfl rfl rfl (fun X hX=>Ib.load hX.2.1) ?_
 refine Pl.aR hS1 rfl rfl rfl rfl rfl (fun X hX=>Ib.load hX.2.2) ?_
 refine Pl.aA rfl rfl rfl rfl rfl (fun u X=>Pl.enters Tryz.func110 (by kernel_rfl) rfl u X) ?_
 refine Calls.mono (pU _ _ _ _ _ 0 _ _ _ _ 1 _ _ _ _ (a:Int) _ _ _ _ (b:Int) (Zn.nil _) (Sz.lit (by decide) (by decide)) (Zn.below Li hD1) (Sz.lit (by decide) (by decide)) (Zn.below hza hD1) ((Sn.sz hla).le (by decide)) (Zn.below hzb hD1) ((Sn.sz hlb).le (by decide))) ?_
 rintro e y1 ⟨fI,fC,fD,fE,rfl,hr1,hC1⟩
 have hT1:Cb y1 Nm 80 [.bool p2,.slice A2 n2 c2,.bool false,.slice none 0 0,.bool false,.slice none 0 0,.bool p2,.slice A2 n2 c2]∧Ib y1 DU yX (.slice yY yZ y5)∧Ib y1 DV y7 (.slice y8 y9 za):=⟨Cb.ext hS1.1 hC1,Ib.ext hS1.2.1 hC1,Ib.ext hS1.2.2 hC1⟩
 have hG1:=hD1.below hC1
 have am6:=Cb.ext ko hG1
 refine ⟨_,rfl,hT1,?_⟩
 refine aP hT1 rfl rfl rfl rfl rfl rfl (eu _) ?_
 have Wo:Xt [No] y1 (y1.setCells No 2 [.bool fI,.slice fC fD fE]):=Xt.uE _ _ am6 (aF (aF aN)) (aF aN)
 refine Pl.bT rfl rfl rfl rfl rfl rfl (Cb.A9 am6 2 [.bool fI,.slice fC fD fE] (by simp) _ (by kernel_rfl) (by simp [Value.oneCell'])) ⟨Wo.cb hT1.1 (by simp;omega),Ib.xt hT1.2.1 Wo (by simp;omega),Ib.xt hT1.2.2 Wo (by simp;omega)⟩ ?_
 have azp:Cb (y1.setCells No 2 [.bool fI,.slice fC fD fE]) No 78 [.bool jA,.slice ji jk jl,.bool fI,.slice fC fD fE]:=Cb.uE [.bool fI,.slice fC fD fE] 2 am6
 generalize y1.setCells No 2 [.bool fI,.slice fC fD fE]=v2 at *
 refine Pl.ak ?_
 have xy1:Xt [No] t0 v2:=(Xt.ext hG1).trans Wo
 replace k2:=xy1.cb k2 (by simp;omega)
 replace k3:=xy1.cb k3 (by simp;omega)
 replace k4:=xy1.cb k4 (by simp;omega)
 replace h5:=Ib.xt h5 xy1 (by simp;omega)
 replace h6:=Ib.xt h6 xy1 (by simp;omega)
 replace hza:=Zn.kp hza xy1.kp
 replace hzb:=Zn.kp hzb xy1.kp
 replace Lh:=Zn.kp Lh xy1.kp
 replace Li:=Zn.kp Li xy1.kp
 replace ko:=azp
 replace hE:=hE.xt xy1 (by simp;have:=hB1.size;omega)
 replace hr1:=Zn.kp hr1 Wo.kp
 replace hr0:=Zn.kp hr0 xy1.kp
 rw [show (0:Int)*(a:Int)+1*(b:Int)=(b:Int) from by omega] at hr1
 have azq:¬ (Int.sign (b:Int))<0:=by have:=Int.sign_nonneg_iff.2 (show (0:Int)≤(b:Int) by omega);omega
 repeat refine Pl.az ?_
 refine Pl.ay (by kernel_rfl) ?_
 refine Pl.ah trivial rfl rfl rfl rfl rfl ?_
 refine aP trivial rfl rfl rfl rfl rfl rfl (eu _) ?_
 refine Pl.aH trivial rfl rfl rfl rfl rfl (Cb.bJ ko 2 [.bool fI,.slice fC fD fE] rfl _ _ rfl rfl (by kernel_rfl)) ?_
 refine Pl.aA rfl rfl rfl rfl rfl (fun u X=>Pl.enters Tryz.func111 (by kernel_rfl) rfl u X) ?_
 refine Calls.mono (Wn _ _ (b:Int) hr1 _ rfl) ?_
 rintro e t1 ⟨rfl,JY⟩
 refine ⟨_,rfl,trivial,?_⟩
 refine Pl.aI (v:=.bool false) trivial rfl rfl rfl rfl rfl rfl (fun X=>jw (decide_eq_false azq) X) ?_
 refine Pl.ak ?_
 replace k2:=Cb.ext k2 JY
 replace k3:=Cb.ext k3 JY
 replace k4:=Cb.ext k4 JY
 replace h5:=Ib.ext h5 JY
 replace h6:=Ib.ext h6 JY
 replace hza:=Zn.below hza JY
 replace hzb:=Zn.below hzb JY
 replace Lh:=Zn.below Lh JY
 replace Li:=Zn.below Li JY
 replace ko:=Cb.ext ko JY
 replace hE:=hE.below JY
 replace hr0:=Zn.below hr0 JY
 replace hr1:=Zn.below hr1 JY
 repeat refine Pl.az ?_
 refine Pl.bD rfl ?_
 repeat refine Pl.az ?_
 refine Pl.bN ?_
 refine Pl.bZ ?_
 repeat refine Pl.az ?_
 refine Pl.ay (by kernel_rfl) ?_
 refine Pl.aI (v:=.int .i64 2) trivial rfl rfl rfl rfl rfl rfl (fun X=>mM (by decide) (by decide) (by decide) X) ?_
 refine Pl.ah trivial rfl rfl rfl rfl rfl ?_
 refine Pl.ak ?_
 refine Pl.xY ?_
 refine Pl.uV ?_
 repeat refine Pl.az ?_
 refine Pl.ay (by kernel_rfl) ?_
 refine Pl.aI (v:=.bool false) trivial rfl rfl rfl rfl rfl rfl (fun X=>jw (by decide) X) ?_
 refine Pl.ak ?_
 repeat refine Pl.az ?_
 refine Pl.bD rfl ?_
 repeat refine Pl.az ?_
 refine Pl.jE ?_
 have hcm:bQ (a:Int) (b:Int)<0:=by rw [← BN,Int.sign_eq_neg_one_of_neg (by omega)];decide
 repeat refine Pl.az ?_
 refine Pl.ay (by kernel_rfl) ?_
 refine aP trivial rfl rfl rfl rfl rfl rfl (fA _) ?_
 refine Pl.aH trivial rfl rfl rfl rfl rfl (Cb.bJ ko 0 [.bool jA,.slice ji jk jl] rfl _ _ rfl rfl (by kernel_rfl)) ?_
 refine aP trivial rfl rfl rfl rfl rfl rfl (eu _) ?_
 refine Pl.aH trivial rfl rfl rfl rfl rfl (Cb.bJ ko 2 [.bool fI,.slice fC fD fE] rfl _ _ rfl rfl (by kernel_rfl)) ?_
 refine Pl.aA rfl rfl rfl rfl rfl (fun u X=>Pl.enters Tryz.func112 (by kernel_rfl) rfl u X) ?_
 refine Calls.mono (azr _ _ _ (a:Int) (b:Int) hr0 hr1 _ rfl) ?_
 rintro e s0 ⟨rfl,hQ2⟩
 refine ⟨_,rfl,trivial,?_⟩
 refine Pl.aI (v:=.bool true) trivial rfl rfl rfl rfl rfl rfl (fun X=>jw (decide_eq_true hcm) X) ?_
 refine Pl.ak ?_
 replace k2:=Cb.ext k2 hQ2
 replace k3:=Cb.ext k3 hQ2
 replace k4:=Cb.ext k4 hQ2
 replace Lh:=Zn.below Lh hQ2
 replace Li:=Zn.below Li hQ2
 replace ko:=Cb.ext ko hQ2
 replace hE:=hE.below hQ2
 replace hr0:=Zn.below hr0 hQ2
 replace hr1:=Zn.below hr1 hQ2
 repeat refine Pl.az ?_
 repeat refine Pl.az ?_
 refine Pl.dh rfl ?_
 repeat refine Pl.az ?_
 refine Pl.nK (S:=fun _=>True) fo trivial ?_
 have hD2:=Ext.drew (Ext.refl s0)
 replace k2:=Cb.ext k2 hD2
 replace k3:=Cb.ext k3 hD2
 replace k4:=Cb.ext k4 hD2
 replace Lh:=Zn.below Lh hD2
 replace Li:=Zn.below Li hD2
 replace ko:=Cb.ext ko hD2
 replace hE:=hE.below hD2
 replace hr0:=Zn.below hr0 hD2
 replace hr1:=Zn.below hr1 hD2
 generalize s0.drew=s1 at *
 intro _
 refine Pl.lm 4 4095 (fun l' w'=>(Cb w' No 78 [.bool fI,.slice fC fD fE,.bool jA,.slice ji jk jl]∧Xt [No] s1 w')∧l'=[(2,.pointer (some ⟨Ns,0,none⟩)),(3,.pointer (some ⟨Nm,0,none⟩)),(4,.pointer (some ⟨Nr,0,none⟩)),(7,.pointer (some ⟨No,0,none⟩)),(58,.agg #[.bool fI,.slice fC fD fE]),(60,.agg #[.bool jA,.slice ji jk jl]),(62,.agg #[.bool false,.slice none 0 0,.bool p2,.slice A2 n2 c2]),(64,.agg #[.bool p2,.slice A2 n2 c2,.bool false,.slice none 0 0])]) ?_ ?_
 rotate_left
 · intro hK
   refine Pl.aS [(true,0,0),(true,2,1),(true,4,5),(true,6,21)] 85 12 Pl.aD (by kernel_rfl) (by kernel_rfl) (by kernel_rfl) ?_
   refine aP trivial rfl rfl rfl rfl rfl rfl (eu _) ?_
   refine aP trivial rfl rfl rfl rfl rfl rfl (fA _) ?_
   refine aP trivial rfl rfl rfl rfl rfl rfl (vZ _) ?_
   refine aP trivial rfl rfl rfl rfl rfl rfl (vY _) ?_
   refine Pl.ak ?_
   refine Pl.dY [1,3,5,7] 11 (by kernel_rfl) (by kernel_rfl) (by kernel_rfl) (Pl.aJ ?_ (Pl.aJ ?_ (Pl.aJ ?_ (Pl.aJ ?_ Pl.aX))))
   · refine Pl.aH trivial rfl rfl rfl rfl rfl (Cb.bJ ko 2 [.bool fI,.slice fC fD fE] rfl _ _ rfl rfl (by kernel_rfl)) ?_
     refine Pl.ak ?_
     refine Pl.dY [3,5,7] 10 (by kernel_rfl) (by kernel_rfl) (by kernel_rfl) (Pl.aJ ?_ (Pl.aJ ?_ (Pl.aJ ?_ Pl.aX)))
     · refine Pl.aH trivial rfl rfl rfl rfl rfl (Cb.bJ ko 0 [.bool jA,.slice ji jk jl] rfl _ _ rfl rfl (by kernel_rfl)) ?_
       refine Pl.ak ?_
       refine Pl.dY [5,7] 9 (by kernel_rfl) (by kernel_rfl) (by kernel_rfl) (Pl.aJ ?_ (Pl.aJ ?_ Pl.aX))
       · refine Pl.aH trivial rfl rfl rfl rfl rfl (Cb.bJ k3 4 [.bool false,.slice none 0 0,.bool p2,.slice A2 n2 c2] rfl _ _ rfl rfl (by kernel_rfl)) ?_
         refine Pl.ak ?_
         refine Pl.aS [(false,7,127),(true,8,255),(false,9,511),(true,10,1023),(false,11,2047)] 4095 4 Pl.aD (by kernel_rfl) (by kernel_rfl) (by kernel_rfl) ?_
         refine Pl.aH trivial rfl rfl rfl rfl rfl (Cb.bJ k3 0 [.bool p2,.slice A2 n2 c2,.bool false,.slice none 0 0] rfl _ _ rfl rfl (by kernel_rfl)) ?_
         refine aP trivial rfl rfl rfl rfl rfl rfl (fA _) ?_
         refine bV (cs':=[.bool fI,.slice fC fD fE,.bool fI,.slice fC fD fE]) ko 0 [.bool fI,.slice fC fD fE] rfl rfl rfl rfl rfl rfl (by kernel_rfl) (by simp) (by simp [Value.oneCell']) (aF (aF aN)) (aF aN) rfl ?_
         intro s2 xa hcs
         replace ko:=hcs
         replace k3:=xa.cb k3 (by simp;omega)
         refine aP trivial rfl rfl rfl rfl rfl rfl (eu _) ?_
         refine bV (cs':=[.bool fI,.slice fC fD fE,.bool jA,.slice ji jk jl]) ko 2 [.bool jA,.slice ji jk jl] rfl rfl rfl rfl rfl rfl (by kernel_rfl) (by simp) (by simp [Value.oneCell']) (aF (aF aN)) (aF aN) rfl ?_
         intro s3 xb hcs
         replace ko:=hcs
         replace k3:=xb.cb k3 (by simp;omega)
         refine Pl.ak ?_
         refine Pl.bK _ ?_ (hK _ _ ⟨⟨ko,xa.trans xb⟩,rfl⟩)
         exact (Pl.aa rfl (Pl.aa rfl (Pl.aa rfl (Pl.aa rfl (Pl.aa rfl (Pl.aa rfl (Pl.aa rfl (Pl.aa rfl Pl.aK))))))))
       · refine Pl.aH trivial rfl rfl rfl rfl rfl (Cb.bJ k3 0 [.bool p2,.slice A2 n2 c2,.bool false,.slice none 0 0] rfl _ _ rfl rfl (by kernel_rfl)) ?_
         refine Pl.ak ?_
         refine Pl.aS [(true,8,223)] 479 8 Pl.aD (by kernel_rfl) (by kernel_rfl) (by kernel_rfl) ?_
         refine aP trivial rfl rfl rfl rfl rfl rfl (fA _) ?_
         refine Pl.ak ?_
         refine Pl.dY [5,9] 7 (by kernel_rfl) (by kernel_rfl) (by kernel_rfl) (Pl.aJ ?_ (Pl.aJ ?_ Pl.aX))
         · refine Pl.aH trivial rfl rfl rfl rfl rfl (Cb.bJ k3 4 [.bool false,.slice none 0 0,.bool p2,.slice A2 n2 c2] rfl _ _ rfl rfl (by kernel_rfl)) ?_
           refine Pl.ak ?_
           refine Pl.aS [(false,9,511),(true,10,1023),(false,11,2047)] 4095 4 Pl.aD (by kernel_rfl) (by kernel_rfl) (by kernel_rfl) ?_
           refine bV (cs':=[.bool fI,.slice fC fD fE,.bool fI,.slice fC fD fE]) ko 0 [.bool fI,.slice fC fD fE] rfl rfl rfl rfl rfl rfl (by kernel_rfl) (by simp) (by simp [Value.oneCell']) (aF (aF aN)) (aF aN) rfl ?_
           intro s2 xa hcs
           replace ko:=hcs
           replace k3:=xa.cb k3 (by simp;omega)
           refine aP trivial rfl rfl rfl rfl rfl rfl (eu _) ?_
           refine bV (cs':=[.bool fI,.slice fC fD fE,.bool jA,.slice ji jk jl]) ko 2 [.bool jA,.slice ji jk jl] rfl rfl rfl rfl rfl rfl (by kernel_rfl) (by simp) (by simp [Value.oneCell']) (aF (aF aN)) (aF aN) rfl ?_
           intro s3 xb hcs
           replace ko:=hcs
           replace k3:=xb.cb k3 (by simp;omega)
           refine Pl.ak ?_
           refine Pl.bK _ ?_ (hK _ _ ⟨⟨ko,xa.trans xb⟩,rfl⟩)
           exact (Pl.aa rfl (Pl.aa rfl (Pl.aa rfl (Pl.aa rfl (Pl.aa rfl (Pl.aa rfl (Pl.aa rfl (Pl.aa rfl Pl.aK))))))))
         · refine bV (cs':=[.bool fI,.slice fC fD fE,.bool fI,.slice fC fD fE]) ko 0 [.bool fI,.slice fC fD fE] rfl rfl rfl rfl rfl rfl (by kernel_rfl) (by simp) (by simp [Value.oneCell']) (aF (aF aN)) (aF aN) rfl ?_
           intro s2 xa hcs
           replace ko:=hcs
           replace k3:=xa.cb k3 (by simp;omega)
           refine Pl.ak ?_
           refine Pl.aS [(true,10,991)] 2015 6 Pl.aD (by kernel_rfl) (by kernel_rfl) (by kernel_rfl) ?_
           refine aP trivial rfl rfl rfl rfl rfl rfl (eu _) ?_
           refine Pl.ak ?_
           refine Pl.dY [5,11] 5 (by kernel_rfl) (by kernel_rfl) (by kernel_rfl) (Pl.aJ ?_ (Pl.aJ ?_ Pl.aX))
           · refine Pl.aH trivial rfl rfl rfl rfl rfl (Cb.bJ k3 4 [.bool false,.slice none 0 0,.bool p2,.slice A2 n2 c2] rfl _ _ rfl rfl (by kernel_rfl)) ?_
             refine Pl.ak ?_
             refine Pl.aS [(false,11,2047)] 4095 4 Pl.aD (by kernel_rfl) (by kernel_rfl) (by kernel_rfl) ?_
             refine bV (cs':=[.bool fI,.slice fC fD fE,.bool jA,.slice ji jk jl]) ko 2 [.bool jA,.slice ji jk jl] rfl rfl rfl rfl rfl rfl (by kernel_rfl) (by simp) (by simp [Value.oneCell']) (aF (aF aN)) (aF aN) rfl ?_
             intro s3 xb hcs
             replace ko:=hcs
             replace k3:=xb.cb k3 (by simp;omega)
             refine Pl.ak ?_
             refine Pl.bK _ ?_ (hK _ _ ⟨⟨ko,xa.trans xb⟩,rfl⟩)
             exact (Pl.aa rfl (Pl.aa rfl (Pl.aa rfl (Pl.aa rfl (Pl.aa rfl (Pl.aa rfl (Pl.aa rfl (Pl.aa rfl Pl.aK))))))))
           · refine bV (cs':=[.bool fI,.slice fC fD fE,.bool jA,.slice ji jk jl]) ko 2 [.bool jA,.slice ji jk jl] rfl rfl rfl rfl rfl rfl (by kernel_rfl) (by simp) (by simp [Value.oneCell']) (aF (aF aN)) (aF aN) rfl ?_
             intro s3 xb hcs
             replace ko:=hcs
             replace k3:=xb.cb k3 (by simp;omega)
             refine Pl.ak ?_
             refine Pl.aS [(false,5,4063)] 4095 4 Pl.aD (by kernel_rfl) (by kernel_rfl) (by kernel_rfl) ?_
             refine Pl.aH trivial rfl rfl rfl rfl rfl (Cb.bJ k3 4 [.bool false,.slice none 0 0,.bool p2,.slice A2 n2 c2] rfl _ _ rfl rfl (by kernel_rfl)) ?_
             refine Pl.ak ?_
             refine Pl.bK _ ?_ (hK _ _ ⟨⟨ko,xa.trans xb⟩,rfl⟩)
             exact (Pl.aa rfl (Pl.aa rfl (Pl.aa rfl (Pl.aa rfl (Pl.aa rfl (Pl.aa rfl (Pl.aa rfl (Pl.aa rfl Pl.aK))))))))
     · refine Pl.aH trivial rfl rfl rfl rfl rfl (Cb.bJ k3 4 [.bool false,.slice none 0 0,.bool p2,.slice A2 n2 c2] rfl _ _ rfl rfl (by kernel_rfl)) ?_
       refine Pl.ak ?_
       refine Pl.dY [3,7] 9 (by kernel_rfl) (by kernel_rfl) (by kernel_rfl) (Pl.aJ ?_ (Pl.aJ ?_ Pl.aX))
       · refine Pl.aH trivial rfl rfl rfl rfl rfl (Cb.bJ ko 0 [.bool jA,.slice ji jk jl] rfl _ _ rfl rfl (by kernel_rfl)) ?_
         refine Pl.ak ?_
         refine Pl.aS [(false,7,127),(true,8,255),(false,9,511),(true,10,1023),(false,11,2047)] 4095 4 Pl.aD (by kernel_rfl) (by kernel_rfl) (by kernel_rfl) ?_
         refine Pl.aH trivial rfl rfl rfl rfl rfl (Cb.bJ k3 0 [.bool p2,.slice A2 n2 c2,.bool false,.slice none 0 0] rfl _ _ rfl rfl (by kernel_rfl)) ?_
         refine aP trivial rfl rfl rfl rfl rfl rfl (fA _) ?_
         refine bV (cs':=[.bool fI,.slice fC fD fE,.bool fI,.slice fC fD fE]) ko 0 [.bool fI,.slice fC fD fE] rfl rfl rfl rfl rfl rfl (by kernel_rfl) (by simp) (by simp [Value.oneCell']) (aF (aF aN)) (aF aN) rfl ?_
         intro s2 xa hcs
         replace ko:=hcs
         replace k3:=xa.cb k3 (by simp;omega)
         refine aP trivial rfl rfl rfl rfl rfl rfl (eu _) ?_
         refine bV (cs':=[.bool fI,.slice fC fD fE,.bool jA,.slice ji jk jl]) ko 2 [.bool jA,.slice ji jk jl] rfl rfl rfl rfl rfl rfl (by kernel_rfl) (by simp) (by simp [Value.oneCell']) (aF (aF aN)) (aF aN) rfl ?_
         intro s3 xb hcs
         replace ko:=hcs
         replace k3:=xb.cb k3 (by simp;omega)
         refine Pl.ak ?_
         refine Pl.bK _ ?_ (hK _ _ ⟨⟨ko,xa.trans xb⟩,rfl⟩)
         exact (Pl.aa rfl (Pl.aa rfl (Pl.aa rfl (Pl.aa rfl (Pl.aa rfl (Pl.aa rfl (Pl.aa rfl (Pl.aa rfl Pl.aK))))))))
       · refine Pl.aH trivial rfl rfl rfl rfl rfl (Cb.bJ k3 0 [.bool p2,.slice A2 n2 c2,.bool false,.slice none 0 0] rfl _ _ rfl rfl (by kernel_rfl)) ?_
         refine Pl.ak ?_
         refine Pl.aS [(false,3,247),(true,8,255),(false,9,511),(true,10,1023),(false,11,2047)] 4095 4 Pl.aD (by kernel_rfl) (by kernel_rfl) (by kernel_rfl) ?_
         refine Pl.aH trivial rfl rfl rfl rfl rfl (Cb.bJ ko 0 [.bool jA,.slice ji jk jl] rfl _ _ rfl rfl (by kernel_rfl)) ?_
         refine aP trivial rfl rfl rfl rfl rfl rfl (fA _) ?_
         refine bV (cs':=[.bool fI,.slice fC fD fE,.bool fI,.slice fC fD fE]) ko 0 [.bool fI,.slice fC fD fE] rfl rfl rfl rfl rfl rfl (by kernel_rfl) (by simp) (by simp [Value.oneCell']) (aF (aF aN)) (aF aN) rfl ?_
         intro s2 xa hcs
         replace ko:=hcs
         replace k3:=xa.cb k3 (by simp;omega)
         refine aP trivial rfl rfl rfl rfl rfl rfl (eu _) ?_
         refine bV (cs':=[.bool fI,.slice fC fD fE,.bool jA,.slice ji jk jl]) ko 2 [.bool jA,.slice ji jk jl] rfl rfl rfl rfl rfl rfl (by kernel_rfl) (by simp) (by simp [Value.oneCell']) (aF (aF aN)) (aF aN) rfl ?_
         intro s3 xb hcs
         replace ko:=hcs
         replace k3:=xb.cb k3 (by simp;omega)
         refine Pl.ak ?_
         refine Pl.bK _ ?_ (hK _ _ ⟨⟨ko,xa.trans xb⟩,rfl⟩)
         exact (Pl.aa rfl (Pl.aa rfl (Pl.aa rfl (Pl.aa rfl (Pl.aa rfl (Pl.aa rfl (Pl.aa rfl (Pl.aa rfl Pl.aK))))))))
     · refine Pl.aH trivial rfl rfl rfl rfl rfl (Cb.bJ k3 0 [.bool p2,.slice A2 n2 c2,.bool false,.slice none 0 0] rfl _ _ rfl rfl (by kernel_rfl)) ?_
       refine Pl.ak ?_
       refine Pl.dY [3,5] 9 (by kernel_rfl) (by kernel_rfl) (by kernel_rfl) (Pl.aJ ?_ (Pl.aJ ?_ Pl.aX))
       · refine Pl.aH trivial rfl rfl rfl rfl rfl (Cb.bJ ko 0 [.bool jA,.slice ji jk jl] rfl _ _ rfl rfl (by kernel_rfl)) ?_
         refine Pl.ak ?_
         refine Pl.aS [(true,8,223)] 479 8 Pl.aD (by kernel_rfl) (by kernel_rfl) (by kernel_rfl) ?_
         refine aP trivial rfl rfl rfl rfl rfl rfl (fA _) ?_
         refine Pl.ak ?_
         refine Pl.dY [5,9] 7 (by kernel_rfl) (by kernel_rfl) (by kernel_rfl) (Pl.aJ ?_ (Pl.aJ ?_ Pl.aX))
         · refine Pl.aH trivial rfl rfl rfl rfl rfl (Cb.bJ k3 4 [.bool false,.slice none 0 0,.bool p2,.slice A2 n2 c2] rfl _ _ rfl rfl (by kernel_rfl)) ?_
           refine Pl.ak ?_
           refine Pl.aS [(false,9,511),(true,10,1023),(false,11,2047)] 4095 4 Pl.aD (by kernel_rfl) (by kernel_rfl) (by kernel_rfl) ?_
           refine bV (cs':=[.bool fI,.slice fC fD fE,.bool fI,.slice fC fD fE]) ko 0 [.bool fI,.slice fC fD fE] rfl rfl rfl rfl rfl rfl (by kernel_rfl) (by simp) (by simp [Value.oneCell']) (aF (aF aN)) (aF aN) rfl ?_
           intro s2 xa hcs
           replace ko:=hcs
           replace k3:=xa.cb k3 (by simp;omega)
           refine aP trivial rfl rfl rfl rfl rfl rfl (eu _) ?_
           refine bV (cs':=[.bool fI,.slice fC fD fE,.bool jA,.slice ji jk jl]) ko 2 [.bool jA,.slice ji jk jl] rfl rfl rfl rfl rfl rfl (by kernel_rfl) (by simp) (by simp [Value.oneCell']) (aF (aF aN)) (aF aN) rfl ?_
           intro s3 xb hcs
           replace ko:=hcs
           replace k3:=xb.cb k3 (by simp;omega)
           refine Pl.ak ?_
           refine Pl.bK _ ?_ (hK _ _ ⟨⟨ko,xa.trans xb⟩,rfl⟩)
           exact (Pl.aa rfl (Pl.aa rfl (Pl.aa rfl (Pl.aa rfl (Pl.aa rfl (Pl.aa rfl (Pl.aa rfl (Pl.aa rfl Pl.aK))))))))
         · refine bV (cs':=[.bool fI,.slice fC fD fE,.bool fI,.slice fC fD fE]) ko 0 [.bool fI,.slice fC fD fE] rfl rfl rfl rfl rfl rfl (by kernel_rfl) (by simp) (by simp [Value.oneCell']) (aF (aF aN)) (aF aN) rfl ?_
           intro s2 xa hcs
           replace ko:=hcs
           replace k3:=xa.cb k3 (by simp;omega)
           refine Pl.ak ?_
           refine Pl.aS [(true,10,991)] 2015 6 Pl.aD (by kernel_rfl) (by kernel_rfl) (by kernel_rfl) ?_
           refine aP trivial rfl rfl rfl rfl rfl rfl (eu _) ?_
           refine Pl.ak ?_
           refine Pl.dY [5,11] 5 (by kernel_rfl) (by kernel_rfl) (by kernel_rfl) (Pl.aJ ?_ (Pl.aJ ?_ Pl.aX))
           · refine Pl.aH trivial rfl rfl rfl rfl rfl (Cb.bJ k3 4 [.bool false,.slice none 0 0,.bool p2,.slice A2 n2 c2] rfl _ _ rfl rfl (by kernel_rfl)) ?_
             refine Pl.ak ?_
             refine Pl.aS [(false,11,2047)] 4095 4 Pl.aD (by kernel_rfl) (by kernel_rfl) (by kernel_rfl) ?_
             refine bV (cs':=[.bool fI,.slice fC fD fE,.bool jA,.slice ji jk jl]) ko 2 [.bool jA,.slice ji jk jl] rfl rfl rfl rfl rfl rfl (by kernel_rfl) (by simp) (by simp [Value.oneCell']) (aF (aF aN)) (aF aN) rfl ?_
             intro s3 xb hcs
             replace ko:=hcs
             replace k3:=xb.cb k3 (by simp;omega)
             refine Pl.ak ?_
             refine Pl.bK _ ?_ (hK _ _ ⟨⟨ko,xa.trans xb⟩,rfl⟩)
             exact (Pl.aa rfl (Pl.aa rfl (Pl.aa rfl (Pl.aa rfl (Pl.aa rfl (Pl.aa rfl (Pl.aa rfl (Pl.aa rfl Pl.aK))))))))
           · refine bV (cs':=[.bool fI,.slice fC fD fE,.bool jA,.slice ji jk jl]) ko 2 [.bool jA,.slice ji jk jl] rfl rfl rfl rfl rfl rfl (by kernel_rfl) (by simp) (by simp [Value.oneCell']) (aF (aF aN)) (aF aN) rfl ?_
             intro s3 xb hcs
             replace ko:=hcs
             replace k3:=xb.cb k3 (by simp;omega)
             refine Pl.ak ?_
             refine Pl.aS [(false,5,4063)] 4095 4 Pl.aD (by kernel_rfl) (by kernel_rfl) (by kernel_rfl) ?_
             refine Pl.aH trivial rfl rfl rfl rfl rfl (Cb.bJ k3 4 [.bool false,.slice none 0 0,.bool p2,.slice A2 n2 c2] rfl _ _ rfl rfl (by kernel_rfl)) ?_
             refine Pl.ak ?_
             refine Pl.bK _ ?_ (hK _ _ ⟨⟨ko,xa.trans xb⟩,rfl⟩)
             exact (Pl.aa rfl (Pl.aa rfl (Pl.aa rfl (Pl.aa rfl (Pl.aa rfl (Pl.aa rfl (Pl.aa rfl (Pl.aa rfl Pl.aK))))))))
       · refine Pl.aH trivial rfl rfl rfl rfl rfl (Cb.bJ k3 4 [.bool false,.slice none 0 0,.bool p2,.slice A2 n2 c2] rfl _ _ rfl rfl (by kernel_rfl)) ?_
         refine Pl.ak ?_
         refine Pl.aS [(false,3,247),(true,8,255),(false,9,511),(true,10,1023),(false,11,2047)] 4095 4 Pl.aD (by kernel_rfl) (by kernel_rfl) (by kernel_rfl) ?_
         refine Pl.aH trivial rfl rfl rfl rfl rfl (Cb.bJ ko 0 [.bool jA,.slice ji jk jl] rfl _ _ rfl rfl (by kernel_rfl)) ?_
         refine aP trivial rfl rfl rfl rfl rfl rfl (fA _) ?_
         refine bV (cs':=[.bool fI,.slice fC fD fE,.bool fI,.slice fC fD fE]) ko 0 [.bool fI,.slice fC fD fE] rfl rfl rfl rfl rfl rfl (by kernel_rfl) (by simp) (by simp [Value.oneCell']) (aF (aF aN)) (aF aN) rfl ?_
         intro s2 xa hcs
         replace ko:=hcs
         replace k3:=xa.cb k3 (by simp;omega)
         refine aP trivial rfl rfl rfl rfl rfl rfl (eu _) ?_
         refine bV (cs':=[.bool fI,.slice fC fD fE,.bool jA,.slice ji jk jl]) ko 2 [.bool jA,.slice ji jk jl] rfl rfl rfl rfl rfl rfl (by kernel_rfl) (by simp) (by simp [Value.oneCell']) (aF (aF aN)) (aF aN) rfl ?_
         intro s3 xb hcs
         replace ko:=hcs
         replace k3:=xb.cb k3 (by simp;omega)
         refine Pl.ak ?_
         refine Pl.bK _ ?_ (hK _ _ ⟨⟨ko,xa.trans xb⟩,rfl⟩)
         exact (Pl.aa rfl (Pl.aa rfl (Pl.aa rfl (Pl.aa rfl (Pl.aa rfl (Pl.aa rfl (Pl.aa rfl (Pl.aa rfl Pl.aK))))))))
   · refine Pl.aH trivial rfl rfl rfl rfl rfl (Cb.bJ ko 0 [.bool jA,.slice ji jk jl] rfl _ _ rfl rfl (by kernel_rfl)) ?_
     refine Pl.ak ?_
     refine Pl.dY [1,5,7] 10 (by kernel_rfl) (by kernel_rfl) (by kernel_rfl) (Pl.aJ ?_ (Pl.aJ ?_ (Pl.aJ ?_ Pl.aX)))
     · refine Pl.aH trivial rfl rfl rfl rfl rfl (Cb.bJ ko 2 [.bool fI,.slice fC fD fE] rfl _ _ rfl rfl (by kernel_rfl)) ?_
       refine Pl.ak ?_
       refine Pl.dY [5,7] 9 (by kernel_rfl) (by kernel_rfl) (by kernel_rfl) (Pl.aJ ?_ (Pl.aJ ?_ Pl.aX))
       · refine Pl.aH trivial rfl rfl rfl rfl rfl (Cb.bJ k3 4 [.bool false,.slice none 0 0,.bool p2,.slice A2 n2 c2] rfl _ _ rfl rfl (by kernel_rfl)) ?_
         refine Pl.ak ?_
         refine Pl.aS [(false,7,127),(true,8,255),(false,9,511),(true,10,1023),(false,11,2047)] 4095 4 Pl.aD (by kernel_rfl) (by kernel_rfl) (by kernel_rfl) ?_
         refine Pl.aH trivial rfl rfl rfl rfl rfl (Cb.bJ k3 0 [.bool p2,.slice A2 n2 c2,.bool false,.slice none 0 0] rfl _ _ rfl rfl (by kernel_rfl)) ?_
         refine aP trivial rfl rfl rfl rfl rfl rfl (fA _) ?_
         refine bV (cs':=[.bool fI,.slice fC fD fE,.bool fI,.slice fC fD fE]) ko 0 [.bool fI,.slice fC fD fE] rfl rfl rfl rfl rfl rfl (by kernel_rfl) (by simp) (by simp [Value.oneCell']) (aF (aF aN)) (aF aN) rfl ?_
         intro s2 xa hcs
         replace ko:=hcs
         replace k3:=xa.cb k3 (by simp;omega)
         refine aP trivial rfl rfl rfl rfl rfl rfl (eu _) ?_
         refine bV (cs':=[.bool fI,.slice fC fD fE,.bool jA,.slice ji jk jl]) ko 2 [.bool jA,.slice ji jk jl] rfl rfl rfl rfl rfl rfl (by kernel_rfl) (by simp) (by simp [Value.oneCell']) (aF (aF aN)) (aF aN) rfl ?_
         intro s3 xb hcs
         replace ko:=hcs
         replace k3:=xb.cb k3 (by simp;omega)
         refine Pl.ak ?_
         refine Pl.bK _ ?_ (hK _ _ ⟨⟨ko,xa.trans xb⟩,rfl⟩)
         exact (Pl.aa rfl (Pl.aa rfl (Pl.aa rfl (Pl.aa rfl (Pl.aa rfl (Pl.aa rfl (Pl.aa rfl (Pl.aa rfl Pl.aK))))))))
       · refine Pl.aH trivial rfl rfl rfl rfl rfl (Cb.bJ k3 0 [.bool p2,.slice A2 n2 c2,.bool false,.slice none 0 0] rfl _ _ rfl rfl (by kernel_rfl)) ?_
         refine Pl.ak ?_
         refine Pl.aS [(true,8,223)] 479 8 Pl.aD (by kernel_rfl) (by kernel_rfl) (by kernel_rfl) ?_
         refine aP trivial rfl rfl rfl rfl rfl rfl (fA _) ?_
         refine Pl.ak ?_
         refine Pl.dY [5,9] 7 (by kernel_rfl) (by kernel_rfl) (by kernel_rfl) (Pl.aJ ?_ (Pl.aJ ?_ Pl.aX))
         · refine Pl.aH trivial rfl rfl rfl rfl rfl (Cb.bJ k3 4 [.bool false,.slice none 0 0,.bool p2,.slice A2 n2 c2] rfl _ _ rfl rfl (by kernel_rfl)) ?_
           refine Pl.ak ?_
           refine Pl.aS [(false,9,511),(true,10,1023),(false,11,2047)] 4095 4 Pl.aD (by kernel_rfl) (by kernel_rfl) (by kernel_rfl) ?_
           refine bV (cs':=[.bool fI,.slice fC fD fE,.bool fI,.slice fC fD fE]) ko 0 [.bool fI,.slice fC fD fE] rfl rfl rfl rfl rfl rfl (by kernel_rfl) (by simp) (by simp [Value.oneCell']) (aF (aF aN)) (aF aN) rfl ?_
           intro s2 xa hcs
           replace ko:=hcs
           replace k3:=xa.cb k3 (by simp;omega)
           refine aP trivial rfl rfl rfl rfl rfl rfl (eu _) ?_
           refine bV (cs':=[.bool fI,.slice fC fD fE,.bool jA,.slice ji jk jl]) ko 2 [.bool jA,.slice ji jk jl] rfl rfl rfl rfl rfl rfl (by kernel_rfl) (by simp) (by simp [Value.oneCell']) (aF (aF aN)) (aF aN) rfl ?_
           intro s3 xb hcs
           replace ko:=hcs
           replace k3:=xb.cb k3 (by simp;omega)
           refine Pl.ak ?_
           refine Pl.bK _ ?_ (hK _ _ ⟨⟨ko,xa.trans xb⟩,rfl⟩)
           exact (Pl.aa rfl (Pl.aa rfl (Pl.aa rfl (Pl.aa rfl (Pl.aa rfl (Pl.aa rfl (Pl.aa rfl (Pl.aa rfl Pl.aK))))))))
         · refine bV (cs':=[.bool fI,.slice fC fD fE,.bool fI,.slice fC fD fE]) ko 0 [.bool fI,.slice fC fD fE] rfl rfl rfl rfl rfl rfl (by kernel_rfl) (by simp) (by simp [Value.oneCell']) (aF (aF aN)) (aF aN) rfl ?_
           intro s2 xa hcs
           replace ko:=hcs
           replace k3:=xa.cb k3 (by simp;omega)
           refine Pl.ak ?_
           refine Pl.aS [(true,10,991)] 2015 6 Pl.aD (by kernel_rfl) (by kernel_rfl) (by kernel_rfl) ?_
           refine aP trivial rfl rfl rfl rfl rfl rfl (eu _) ?_
           refine Pl.ak ?_
           refine Pl.dY [5,11] 5 (by kernel_rfl) (by kernel_rfl) (by kernel_rfl) (Pl.aJ ?_ (Pl.aJ ?_ Pl.aX))
           · refine Pl.aH trivial rfl rfl rfl rfl rfl (Cb.bJ k3 4 [.bool false,.slice none 0 0,.bool p2,.slice A2 n2 c2] rfl _ _ rfl rfl (by kernel_rfl)) ?_
             refine Pl.ak ?_
             refine Pl.aS [(false,11,2047)] 4095 4 Pl.aD (by kernel_rfl) (by kernel_rfl) (by kernel_rfl) ?_
             refine bV (cs':=[.bool fI,.slice fC fD fE,.bool jA,.slice ji jk jl]) ko 2 [.bool jA,.slice ji jk jl] rfl rfl rfl rfl rfl rfl (by kernel_rfl) (by simp) (by simp [Value.oneCell']) (aF (aF aN)) (aF aN) rfl ?_
             intro s3 xb hcs
             replace ko:=hcs
             replace k3:=xb.cb k3 (by simp;omega)
             refine Pl.ak ?_
             refine Pl.bK _ ?_ (hK _ _ ⟨⟨ko,xa.trans xb⟩,rfl⟩)
             exact (Pl.aa rfl (Pl.aa rfl (Pl.aa rfl (Pl.aa rfl (Pl.aa rfl (Pl.aa rfl (Pl.aa rfl (Pl.aa rfl Pl.aK))))))))
           · refine bV (cs':=[.bool fI,.slice fC fD fE,.bool jA,.slice ji jk jl]) ko 2 [.bool jA,.slice ji jk jl] rfl rfl rfl rfl rfl rfl (by kernel_rfl) (by simp) (by simp [Value.oneCell']) (aF (aF aN)) (aF aN) rfl ?_
             intro s3 xb hcs
             replace ko:=hcs
             replace k3:=xb.cb k3 (by simp;omega)
             refine Pl.ak ?_
             refine Pl.aS [(false,5,4063)] 4095 4 Pl.aD (by kernel_rfl) (by kernel_rfl) (by kernel_rfl) ?_
             refine Pl.aH trivial rfl rfl rfl rfl rfl (Cb.bJ k3 4 [.bool false,.slice none 0 0,.bool p2,.slice A2 n2 c2] rfl _ _ rfl rfl (by kernel_rfl)) ?_
             refine Pl.ak ?_
             refine Pl.bK _ ?_ (hK _ _ ⟨⟨ko,xa.trans xb⟩,rfl⟩)
             exact (Pl.aa rfl (Pl.aa rfl (Pl.aa rfl (Pl.aa rfl (Pl.aa rfl (Pl.aa rfl (Pl.aa rfl (Pl.aa rfl Pl.aK))))))))
     · refine Pl.aH trivial rfl rfl rfl rfl rfl (Cb.bJ k3 4 [.bool false,.slice none 0 0,.bool p2,.slice A2 n2 c2] rfl _ _ rfl rfl (by kernel_rfl)) ?_
       refine Pl.ak ?_
       refine Pl.dY [1,7] 9 (by kernel_rfl) (by kernel_rfl) (by kernel_rfl) (Pl.aJ ?_ (Pl.aJ ?_ Pl.aX))
       · refine Pl.aH trivial rfl rfl rfl rfl rfl (Cb.bJ ko 2 [.bool fI,.slice fC fD fE] rfl _ _ rfl rfl (by kernel_rfl)) ?_
         refine Pl.ak ?_
         refine Pl.aS [(false,7,127),(true,8,255),(false,9,511),(true,10,1023),(false,11,2047)] 4095 4 Pl.aD (by kernel_rfl) (by kernel_rfl) (by kernel_rfl) ?_
         refine Pl.aH trivial rfl rfl rfl rfl rfl (Cb.bJ k3 0 [.bool p2,.slice A2 n2 c2,.bool false,.slice none 0 0] rfl _ _ rfl rfl (by kernel_rfl)) ?_
         refine aP trivial rfl rfl rfl rfl rfl rfl (fA _) ?_
         refine bV (cs':=[.bool fI,.slice fC fD fE,.bool fI,.slice fC fD fE]) ko 0 [.bool fI,.slice fC fD fE] rfl rfl rfl rfl rfl rfl (by kernel_rfl) (by simp) (by simp [Value.oneCell']) (aF (aF aN)) (aF aN) rfl ?_
         intro s2 xa hcs
         replace ko:=hcs
         replace k3:=xa.cb k3 (by simp;omega)
         refine aP trivial rfl rfl rfl rfl rfl rfl (eu _) ?_
         refine bV (cs':=[.bool fI,.slice fC fD fE,.bool jA,.slice ji jk jl]) ko 2 [.bool jA,.slice ji jk jl] rfl rfl rfl rfl rfl rfl (by kernel_rfl) (by simp) (by simp [Value.oneCell']) (aF (aF aN)) (aF aN) rfl ?_
         intro s3 xb hcs
         replace ko:=hcs
         replace k3:=xb.cb k3 (by simp;omega)
         refine Pl.ak ?_
         refine Pl.bK _ ?_ (hK _ _ ⟨⟨ko,xa.trans xb⟩,rfl⟩)
         exact (Pl.aa rfl (Pl.aa rfl (Pl.aa rfl (Pl.aa rfl (Pl.aa rfl (Pl.aa rfl (Pl.aa rfl (Pl.aa rfl Pl.aK))))))))
       · refine Pl.aH trivial rfl rfl rfl rfl rfl (Cb.bJ k3 0 [.bool p2,.slice A2 n2 c2,.bool false,.slice none 0 0] rfl _ _ rfl rfl (by kernel_rfl)) ?_
         refine Pl.ak ?_
         refine Pl.aS [(false,1,253),(true,8,255),(false,9,511),(true,10,1023),(false,11,2047)] 4095 4 Pl.aD (by kernel_rfl) (by kernel_rfl) (by kernel_rfl) ?_
         refine Pl.aH trivial rfl rfl rfl rfl rfl (Cb.bJ ko 2 [.bool fI,.slice fC fD fE] rfl _ _ rfl rfl (by kernel_rfl)) ?_
         refine aP trivial rfl rfl rfl rfl rfl rfl (fA _) ?_
         refine bV (cs':=[.bool fI,.slice fC fD fE,.bool fI,.slice fC fD fE]) ko 0 [.bool fI,.slice fC fD fE] rfl rfl rfl rfl rfl rfl (by kernel_rfl) (by simp) (by simp [Value.oneCell']) (aF (aF aN)) (aF aN) rfl ?_
         intro s2 xa hcs
         replace ko:=hcs
         replace k3:=xa.cb k3 (by simp;omega)
         refine aP trivial rfl rfl rfl rfl rfl rfl (eu _) ?_
         refine bV (cs':=[.bool fI,.slice fC fD fE,.bool jA,.slice ji jk jl]) ko 2 [.bool jA,.slice ji jk jl] rfl rfl rfl rfl rfl rfl (by kernel_rfl) (by simp) (by simp [Value.oneCell']) (aF (aF aN)) (aF aN) rfl ?_
         intro s3 xb hcs
         replace ko:=hcs
         replace k3:=xb.cb k3 (by simp;omega)
         refine Pl.ak ?_
         refine Pl.bK _ ?_ (hK _ _ ⟨⟨ko,xa.trans xb⟩,rfl⟩)
         exact (Pl.aa rfl (Pl.aa rfl (Pl.aa rfl (Pl.aa rfl (Pl.aa rfl (Pl.aa rfl (Pl.aa rfl (Pl.aa rfl Pl.aK))))))))
     · refine Pl.aH trivial rfl rfl rfl rfl rfl (Cb.bJ k3 0 [.bool p2,.slice A2 n2 c2,.bool false,.slice none 0 0] rfl _ _ rfl rfl (by kernel_rfl)) ?_
       refine Pl.ak ?_
       refine Pl.dY [1,5] 9 (by kernel_rfl) (by kernel_rfl) (by kernel_rfl) (Pl.aJ ?_ (Pl.aJ ?_ Pl.aX))
       · refine Pl.aH trivial rfl rfl rfl rfl rfl (Cb.bJ ko 2 [.bool fI,.slice fC fD fE] rfl _ _ rfl rfl (by kernel_rfl)) ?_
         refine Pl.ak ?_
         refine Pl.aS [(true,8,223)] 479 8 Pl.aD (by kernel_rfl) (by kernel_rfl) (by kernel_rfl) ?_
         refine aP trivial rfl rfl rfl rfl rfl rfl (fA _) ?_
         refine Pl.ak ?_
         refine Pl.dY [5,9] 7 (by kernel_rfl) (by kernel_rfl) (by kernel_rfl) (Pl.aJ ?_ (Pl.aJ ?_ Pl.aX))
         · refine Pl.aH trivial rfl rfl rfl rfl rfl (Cb.bJ k3 4 [.bool false,.slice none 0 0,.bool p2,.slice A2 n2 c2] rfl _ _ rfl rfl (by kernel_rfl)) ?_
           refine Pl.ak ?_
           refine Pl.aS [(false,9,511),(true,10,1023),(false,11,2047)] 4095 4 Pl.aD (by kernel_rfl) (by kernel_rfl) (by kernel_rfl) ?_
           refine bV (cs':=[.bool fI,.slice fC fD fE,.bool fI,.slice fC fD fE]) ko 0 [.bool fI,.slice fC fD fE] rfl rfl rfl rfl rfl rfl (by kernel_rfl) (by simp) (by simp [Value.oneCell']) (aF (aF aN)) (aF aN) rfl ?_
           intro s2 xa hcs
           replace ko:=hcs
           replace k3:=xa.cb k3 (by simp;omega)
           refine aP trivial rfl rfl rfl rfl rfl rfl (eu _) ?_
           refine bV (cs':=[.bool fI,.slice fC fD fE,.bool jA,.slice ji jk jl]) ko 2 [.bool jA,.slice ji jk jl] rfl rfl rfl rfl rfl rfl (by kernel_rfl) (by simp) (by simp [Value.oneCell']) (aF (aF aN)) (aF aN) rfl ?_
           intro s3 xb hcs
           replace ko:=hcs
           replace k3:=xb.cb k3 (by simp;omega)
           refine Pl.ak ?_
           refine Pl.bK _ ?_ (hK _ _ ⟨⟨ko,xa.trans xb⟩,rfl⟩)
           exact (Pl.aa rfl (Pl.aa rfl (Pl.aa rfl (Pl.aa rfl (Pl.aa rfl (Pl.aa rfl (Pl.aa rfl (Pl.aa rfl Pl.aK))))))))
         · refine bV (cs':=[.bool fI,.slice fC fD fE,.bool fI,.slice fC fD fE]) ko 0 [.bool fI,.slice fC fD fE] rfl rfl rfl rfl rfl rfl (by kernel_rfl) (by simp) (by simp [Value.oneCell']) (aF (aF aN)) (aF aN) rfl ?_
           intro s2 xa hcs
           replace ko:=hcs
           replace k3:=xa.cb k3 (by simp;omega)
           refine Pl.ak ?_
           refine Pl.aS [(true,10,991)] 2015 6 Pl.aD (by kernel_rfl) (by kernel_rfl) (by kernel_rfl) ?_
           refine aP trivial rfl rfl rfl rfl rfl rfl (eu _) ?_
           refine Pl.ak ?_
           refine Pl.dY [5,11] 5 (by kernel_rfl) (by kernel_rfl) (by kernel_rfl) (Pl.aJ ?_ (Pl.aJ ?_ Pl.aX))
           · refine Pl.aH trivial rfl rfl rfl rfl rfl (Cb.bJ k3 4 [.bool false,.slice none 0 0,.bool p2,.slice A2 n2 c2] rfl _ _ rfl rfl (by kernel_rfl)) ?_
             refine Pl.ak ?_
             refine Pl.aS [(false,11,2047)] 4095 4 Pl.aD (by kernel_rfl) (by kernel_rfl) (by kernel_rfl) ?_
             refine bV (cs':=[.bool fI,.slice fC fD fE,.bool jA,.slice ji jk jl]) ko 2 [.bool jA,.slice ji jk jl] rfl rfl rfl rfl rfl rfl (by kernel_rfl) (by simp) (by simp [Value.oneCell']) (aF (aF aN)) (aF aN) rfl ?_
             intro s3 xb hcs
             replace ko:=hcs
             replace k3:=xb.cb k3 (by simp;omega)
             refine Pl.ak ?_
             refine Pl.bK _ ?_ (hK _ _ ⟨⟨ko,xa.trans xb⟩,rfl⟩)
             exact (Pl.aa rfl (Pl.aa rfl (Pl.aa rfl (Pl.aa rfl (Pl.aa rfl (Pl.aa rfl (Pl.aa rfl (Pl.aa rfl Pl.aK))))))))
           · refine bV (cs':=[.bool fI,.slice fC fD fE,.bool jA,.slice ji jk jl]) ko 2 [.bool jA,.slice ji jk jl] rfl rfl rfl rfl rfl rfl (by kernel_rfl) (by simp) (by simp [Value.oneCell']) (aF (aF aN)) (aF aN) rfl ?_
             intro s3 xb hcs
             replace ko:=hcs
             replace k3:=xb.cb k3 (by simp;omega)
             refine Pl.ak ?_
             refine Pl.aS [(false,5,4063)] 4095 4 Pl.aD (by kernel_rfl) (by kernel_rfl) (by kernel_rfl) ?_
             refine Pl.aH trivial rfl rfl rfl rfl rfl (Cb.bJ k3 4 [.bool false,.slice none 0 0,.bool p2,.slice A2 n2 c2] rfl _ _ rfl rfl (by kernel_rfl)) ?_
             refine Pl.ak ?_
             refine Pl.bK _ ?_ (hK _ _ ⟨⟨ko,xa.trans xb⟩,rfl⟩)
             exact (Pl.aa rfl (Pl.aa rfl (Pl.aa rfl (Pl.aa rfl (Pl.aa rfl (Pl.aa rfl (Pl.aa rfl (Pl.aa rfl Pl.aK))))))))
       · refine Pl.aH trivial rfl rfl rfl rfl rfl (Cb.bJ k3 4 [.bool false,.slice none 0 0,.bool p2,.slice A2 n2 c2] rfl _ _ rfl rfl (by kernel_rfl)) ?_
         refine Pl.ak ?_
         refine Pl.aS [(false,1,253),(true,8,255),(false,9,511),(true,10,1023),(false,11,2047)] 4095 4 Pl.aD (by kernel_rfl) (by kernel_rfl) (by kernel_rfl) ?_
         refine Pl.aH trivial rfl rfl rfl rfl rfl (Cb.bJ ko 2 [.bool fI,.slice fC fD fE] rfl _ _ rfl rfl (by kernel_rfl)) ?_
         refine aP trivial rfl rfl rfl rfl rfl rfl (fA _) ?_
         refine bV (cs':=[.bool fI,.slice fC fD fE,.bool fI,.slice fC fD fE]) ko 0 [.bool fI,.slice fC fD fE] rfl rfl rfl rfl rfl rfl (by kernel_rfl) (by simp) (by simp [Value.oneCell']) (aF (aF aN)) (aF aN) rfl ?_
         intro s2 xa hcs
         replace ko:=hcs
         replace k3:=xa.cb k3 (by simp;omega)
         refine aP trivial rfl rfl rfl rfl rfl rfl (eu _) ?_
         refine bV (cs':=[.bool fI,.slice fC fD fE,.bool jA,.slice ji jk jl]) ko 2 [.bool jA,.slice ji jk jl] rfl rfl rfl rfl rfl rfl (by kernel_rfl) (by simp) (by simp [Value.oneCell']) (aF (aF aN)) (aF aN) rfl ?_
         intro s3 xb hcs
         replace ko:=hcs
         replace k3:=xb.cb k3 (by simp;omega)
         refine Pl.ak ?_
         refine Pl.bK _ ?_ (hK _ _ ⟨⟨ko,xa.trans xb⟩,rfl⟩)
         exact (Pl.aa rfl (Pl.aa rfl (Pl.aa rfl (Pl.aa rfl (Pl.aa rfl (Pl.aa rfl (Pl.aa rfl (Pl.aa rfl Pl.aK))))))))
   · refine Pl.aH trivial rfl rfl rfl rfl rfl (Cb.bJ k3 4 [.bool false,.slice none 0 0,.bool p2,.slice A2 n2 c2] rfl _ _ rfl rfl (by kernel_rfl)) ?_
     refine Pl.ak ?_
     refine Pl.dY [1,3,7] 10 (by kernel_rfl) (by kernel_rfl) (by kernel_rfl) (Pl.aJ ?_ (Pl.aJ ?_ (Pl.aJ ?_ Pl.aX)))
     · refine Pl.aH trivial rfl rfl rfl rfl rfl (Cb.bJ ko 2 [.bool fI,.slice fC fD fE] rfl _ _ rfl rfl (by kernel_rfl)) ?_
       refine Pl.ak ?_
       refine Pl.dY [3,7] 9 (by kernel_rfl) (by kernel_rfl) (by kernel_rfl) (Pl.aJ ?_ (Pl.aJ ?_ Pl.aX))
       · refine Pl.aH trivial rfl rfl rfl rfl rfl (Cb.bJ ko 0 [.bool jA,.slice ji jk jl] rfl _ _ rfl rfl (by kernel_rfl)) ?_
         refine Pl.ak ?_
         refine Pl.aS [(false,7,127),(true,8,255),(false,9,511),(true,10,1023),(false,11,2047)] 4095 4 Pl.aD (by kernel_rfl) (by kernel_rfl) (by kernel_rfl) ?_
         refine Pl.aH trivial rfl rfl rfl rfl rfl (Cb.bJ k3 0 [.bool p2,.slice A2 n2 c2,.bool false,.slice none 0 0] rfl _ _ rfl rfl (by kernel_rfl)) ?_
         refine aP trivial rfl rfl rfl rfl rfl rfl (fA _) ?_
         refine bV (cs':=[.bool fI,.slice fC fD fE,.bool fI,.slice fC fD fE]) ko 0 [.bool fI,.slice fC fD fE] rfl rfl rfl rfl rfl rfl (by kernel_rfl) (by simp) (by simp [Value.oneCell']) (aF (aF aN)) (aF aN) rfl ?_
         intro s2 xa hcs
         replace ko:=hcs
         replace k3:=xa.cb k3 (by simp;omega)
         refine aP trivial rfl rfl rfl rfl rfl rfl (eu _) ?_
         refine bV (cs':=[.bool fI,.slice fC fD fE,.bool jA,.slice ji jk jl]) ko 2 [.bool jA,.slice ji jk jl] rfl rfl rfl rfl rfl rfl (by kernel_rfl) (by simp) (by simp [Value.oneCell']) (aF (aF aN)) (aF aN) rfl ?_
         intro s3 xb hcs
         replace ko:=hcs
         replace k3:=xb.cb k3 (by simp;omega)
         refine Pl.ak ?_
         refine Pl.bK _ ?_ (hK _ _ ⟨⟨ko,xa.trans xb⟩,rfl⟩)
         exact (Pl.aa rfl (Pl.aa rfl (Pl.aa rfl (Pl.aa rfl (Pl.aa rfl (Pl.aa rfl (Pl.aa rfl (Pl.aa rfl Pl.aK))))))))
       · refine Pl.aH trivial rfl rfl rfl rfl rfl (Cb.bJ k3 0 [.bool p2,.slice A2 n2 c2,.bool false,.slice none 0 0] rfl _ _ rfl rfl (by kernel_rfl)) ?_
         refine Pl.ak ?_
         refine Pl.aS [(false,3,247),(true,8,255),(false,9,511),(true,10,1023),(false,11,2047)] 4095 4 Pl.aD (by kernel_rfl) (by kernel_rfl) (by kernel_rfl) ?_
         refine Pl.aH trivial rfl rfl rfl rfl rfl (Cb.bJ ko 0 [.bool jA,.slice ji jk jl] rfl _ _ rfl rfl (by kernel_rfl)) ?_
         refine aP trivial rfl rfl rfl rfl rfl rfl (fA _) ?_
         refine bV (cs':=[.bool fI,.slice fC fD fE,.bool fI,.slice fC fD fE]) ko 0 [.bool fI,.slice fC fD fE] rfl rfl rfl rfl rfl rfl (by kernel_rfl) (by simp) (by simp [Value.oneCell']) (aF (aF aN)) (aF aN) rfl ?_
         intro s2 xa hcs
         replace ko:=hcs
         replace k3:=xa.cb k3 (by simp;omega)
         refine aP trivial rfl rfl rfl rfl rfl rfl (eu _) ?_
         refine bV (cs':=[.bool fI,.slice fC fD fE,.bool jA,.slice ji jk jl]) ko 2 [.bool jA,.slice ji jk jl] rfl rfl rfl rfl rfl rfl (by kernel_rfl) (by simp) (by simp [Value.oneCell']) (aF (aF aN)) (aF aN) rfl ?_
         intro s3 xb hcs
         replace ko:=hcs
         replace k3:=xb.cb k3 (by simp;omega)
         refine Pl.ak ?_
         refine Pl.bK _ ?_ (hK _ _ ⟨⟨ko,xa.trans xb⟩,rfl⟩)
         exact (Pl.aa rfl (Pl.aa rfl (Pl.aa rfl (Pl.aa rfl (Pl.aa rfl (Pl.aa rfl (Pl.aa rfl (Pl.aa rfl Pl.aK))))))))
     · refine Pl.aH trivial rfl rfl rfl rfl rfl (Cb.bJ ko 0 [.bool jA,.slice ji jk jl] rfl _ _ rfl rfl (by kernel_rfl)) ?_
       refine Pl.ak ?_
       refine Pl.dY [1,7] 9 (by kernel_rfl) (by kernel_rfl) (by kernel_rfl) (Pl.aJ ?_ (Pl.aJ ?_ Pl.aX))
       · refine Pl.aH trivial rfl rfl rfl rfl rfl (Cb.bJ ko 2 [.bool fI,.slice fC fD fE] rfl _ _ rfl rfl (by kernel_rfl)) ?_
         refine Pl.ak ?_
         refine Pl.aS [(false,7,127),(true,8,255),(false,9,511),(true,10,1023),(false,11,2047)] 4095 4 Pl.aD (by kernel_rfl) (by kernel_rfl) (by kernel_rfl) ?_
         refine Pl.aH trivial rfl rfl rfl rfl rfl (Cb.bJ k3 0 [.bool p2,.slice A2 n2 c2,.bool false,.slice none 0 0] rfl _ _ rfl rfl (by kernel_rfl)) ?_
         refine aP trivial rfl rfl rfl rfl rfl rfl (fA _) ?_
         refine bV (cs':=[.bool fI,.slice fC fD fE,.bool fI,.slice fC fD fE]) ko 0 [.bool fI,.slice fC fD fE] rfl rfl rfl rfl rfl rfl (by kernel_rfl) (by simp) (by simp [Value.oneCell']) (aF (aF aN)) (aF aN) rfl ?_
         intro s2 xa hcs
         replace ko:=hcs
         replace k3:=xa.cb k3 (by simp;omega)
         refine aP trivial rfl rfl rfl rfl rfl rfl (eu _) ?_
         refine bV (cs':=[.bool fI,.slice fC fD fE,.bool jA,.slice ji jk jl]) ko 2 [.bool jA,.slice ji jk jl] rfl rfl rfl rfl rfl rfl (by kernel_rfl) (by simp) (by simp [Value.oneCell']) (aF (aF aN)) (aF aN) rfl ?_
         intro s3 xb hcs
         replace ko:=hcs
         replace k3:=xb.cb k3 (by simp;omega)
         refine Pl.ak ?_
         refine Pl.bK _ ?_ (hK _ _ ⟨⟨ko,xa.trans xb⟩,rfl⟩)
         exact (Pl.aa rfl (Pl.aa rfl (Pl.aa rfl (Pl.aa rfl (Pl.aa rfl (Pl.aa rfl (Pl.aa rfl (Pl.aa rfl Pl.aK))))))))
       · refine Pl.aH trivial rfl rfl rfl rfl rfl (Cb.bJ k3 0 [.bool p2,.slice A2 n2 c2,.bool false,.slice none 0 0] rfl _ _ rfl rfl (by kernel_rfl)) ?_
         refine Pl.ak ?_
         refine Pl.aS [(false,1,253),(true,8,255),(false,9,511),(true,10,1023),(false,11,2047)] 4095 4 Pl.aD (by kernel_rfl) (by kernel_rfl) (by kernel_rfl) ?_
         refine Pl.aH trivial rfl rfl rfl rfl rfl (Cb.bJ ko 2 [.bool fI,.slice fC fD fE] rfl _ _ rfl rfl (by kernel_rfl)) ?_
         refine aP trivial rfl rfl rfl rfl rfl rfl (fA _) ?_
         refine bV (cs':=[.bool fI,.slice fC fD fE,.bool fI,.slice fC fD fE]) ko 0 [.bool fI,.slice fC fD fE] rfl rfl rfl rfl rfl rfl (by kernel_rfl) (by simp) (by simp [Value.oneCell']) (aF (aF aN)) (aF aN) rfl ?_
         intro s2 xa hcs
         replace ko:=hcs
         replace k3:=xa.cb k3 (by simp;omega)
         refine aP trivial rfl rfl rfl rfl rfl rfl (eu _) ?_
         refine bV (cs':=[.bool fI,.slice fC fD fE,.bool jA,.slice ji jk jl]) ko 2 [.bool jA,.slice ji jk jl] rfl rfl rfl rfl rfl rfl (by kernel_rfl) (by simp) (by simp [Value.oneCell']) (aF (aF aN)) (aF aN) rfl ?_
         intro s3 xb hcs
         replace ko:=hcs
         replace k3:=xb.cb k3 (by simp;omega)
         refine Pl.ak ?_
         refine Pl.bK _ ?_ (hK _ _ ⟨⟨ko,xa.trans xb⟩,rfl⟩)
         exact (Pl.aa rfl (Pl.aa rfl (Pl.aa rfl (Pl.aa rfl (Pl.aa rfl (Pl.aa rfl (Pl.aa rfl (Pl.aa rfl Pl.aK))))))))
     · refine Pl.aH trivial rfl rfl rfl rfl rfl (Cb.bJ k3 0 [.bool p2,.slice A2 n2 c2,.bool false,.slice none 0 0] rfl _ _ rfl rfl (by kernel_rfl)) ?_
       refine Pl.ak ?_
       refine Pl.dY [1,3] 9 (by kernel_rfl) (by kernel_rfl) (by kernel_rfl) (Pl.aJ ?_ (Pl.aJ ?_ Pl.aX))
       · refine Pl.aH trivial rfl rfl rfl rfl rfl (Cb.bJ ko 2 [.bool fI,.slice fC fD fE] rfl _ _ rfl rfl (by kernel_rfl)) ?_
         refine Pl.ak ?_
         refine Pl.aS [(false,3,247),(true,8,255),(false,9,511),(true,10,1023),(false,11,2047)] 4095 4 Pl.aD (by kernel_rfl) (by kernel_rfl) (by kernel_rfl) ?_
         refine Pl.aH trivial rfl rfl rfl rfl rfl (Cb.bJ ko 0 [.bool jA,.slice ji jk jl] rfl _ _ rfl rfl (by kernel_rfl)) ?_
         refine aP trivial rfl rfl rfl rfl rfl rfl (fA _) ?_
         refine bV (cs':=[.bool fI,.slice fC fD fE,.bool fI,.slice fC fD fE]) ko 0 [.bool fI,.slice fC fD fE] rfl rfl rfl rfl rfl rfl (by kernel_rfl) (by simp) (by simp [Value.oneCell']) (aF (aF aN)) (aF aN) rfl ?_
         intro s2 xa hcs
         replace ko:=hcs
         replace k3:=xa.cb k3 (by simp;omega)
         refine aP trivial rfl rfl rfl rfl rfl rfl (eu _) ?_
         refine bV (cs':=[.bool fI,.slice fC fD fE,.bool jA,.slice ji jk jl]) ko 2 [.bool jA,.slice ji jk jl] rfl rfl rfl rfl rfl rfl (by kernel_rfl) (by simp) (by simp [Value.oneCell']) (aF (aF aN)) (aF aN) rfl ?_
         intro s3 xb hcs
         replace ko:=hcs
         replace k3:=xb.cb k3 (by simp;omega)
         refine Pl.ak ?_
         refine Pl.bK _ ?_ (hK _ _ ⟨⟨ko,xa.trans xb⟩,rfl⟩)
         exact (Pl.aa rfl (Pl.aa rfl (Pl.aa rfl (Pl.aa rfl (Pl.aa rfl (Pl.aa rfl (Pl.aa rfl (Pl.aa rfl Pl.aK))))))))
       · refine Pl.aH trivial rfl rfl rfl rfl rfl (Cb.bJ ko 0 [.bool jA,.slice ji jk jl] rfl _ _ rfl rfl (by kernel_rfl)) ?_
         refine Pl.ak ?_
         refine Pl.aS [(false,1,253),(true,8,255),(false,9,511),(true,10,1023),(false,11,2047)] 4095 4 Pl.aD (by kernel_rfl) (by kernel_rfl) (by kernel_rfl) ?_
         refine Pl.aH trivial rfl rfl rfl rfl rfl (Cb.bJ ko 2 [.bool fI,.slice fC fD fE] rfl _ _ rfl rfl (by kernel_rfl)) ?_
         refine aP trivial rfl rfl rfl rfl rfl rfl (fA _) ?_
         refine bV (cs':=[.bool fI,.slice fC fD fE,.bool fI,.slice fC fD fE]) ko 0 [.bool fI,.slice fC fD fE] rfl rfl rfl rfl rfl rfl (by kernel_rfl) (by simp) (by simp [Value.oneCell']) (aF (aF aN)) (aF aN) rfl ?_
         intro s2 xa hcs
         replace ko:=hcs
         replace k3:=xa.cb k3 (by simp;omega)
         refine aP trivial rfl rfl rfl rfl rfl rfl (eu _) ?_
         refine bV (cs':=[.bool fI,.slice fC fD fE,.bool jA,.slice ji jk jl]) ko 2 [.bool jA,.slice ji jk jl] rfl rfl rfl rfl rfl rfl (by kernel_rfl) (by simp) (by simp [Value.oneCell']) (aF (aF aN)) (aF aN) rfl ?_
         intro s3 xb hcs
         replace ko:=hcs
         replace k3:=xb.cb k3 (by simp;omega)
         refine Pl.ak ?_
         refine Pl.bK _ ?_ (hK _ _ ⟨⟨ko,xa.trans xb⟩,rfl⟩)
         exact (Pl.aa rfl (Pl.aa rfl (Pl.aa rfl (Pl.aa rfl (Pl.aa rfl (Pl.aa rfl (Pl.aa rfl (Pl.aa rfl Pl.aK))))))))
   · refine Pl.aH trivial rfl rfl rfl rfl rfl (Cb.bJ k3 0 [.bool p2,.slice A2 n2 c2,.bool false,.slice none 0 0] rfl _ _ rfl rfl (by kernel_rfl)) ?_
     refine Pl.ak ?_
     refine Pl.dY [1,3,5] 10 (by kernel_rfl) (by kernel_rfl) (by kernel_rfl) (Pl.aJ ?_ (Pl.aJ ?_ (Pl.aJ ?_ Pl.aX)))
     · refine Pl.aH trivial rfl rfl rfl rfl rfl (Cb.bJ ko 2 [.bool fI,.slice fC fD fE] rfl _ _ rfl rfl (by kernel_rfl)) ?_
       refine Pl.ak ?_
       refine Pl.dY [3,5] 9 (by kernel_rfl) (by kernel_rfl) (by kernel_rfl) (Pl.aJ ?_ (Pl.aJ ?_ Pl.aX))
       · refine Pl.aH trivial rfl rfl rfl rfl rfl (Cb.bJ ko 0 [.bool jA,.slice ji jk jl] rfl _ _ rfl rfl (by kernel_rfl)) ?_
         refine Pl.ak ?_
         refine Pl.aS [(true,8,223)] 479 8 Pl.aD (by kernel_rfl) (by kernel_rfl) (by kernel_rfl) ?_
         refine aP trivial rfl rfl rfl rfl rfl rfl (fA _) ?_
         refine Pl.ak ?_
         refine Pl.dY [5,9] 7 (by kernel_rfl) (by kernel_rfl) (by kernel_rfl) (Pl.aJ ?_ (Pl.aJ ?_ Pl.aX))
         · refine Pl.aH trivial rfl rfl rfl rfl rfl (Cb.bJ k3 4 [.bool false,.slice none 0 0,.bool p2,.slice A2 n2 c2] rfl _ _ rfl rfl (by kernel_rfl)) ?_
           refine Pl.ak ?_
           refine Pl.aS [(false,9,511),(true,10,1023),(false,11,2047)] 4095 4 Pl.aD (by kernel_rfl) (by kernel_rfl) (by kernel_rfl) ?_
           refine bV (cs':=[.bool fI,.slice fC fD fE,.bool fI,.slice fC fD fE]) ko 0 [.bool fI,.slice fC fD fE] rfl rfl rfl rfl rfl rfl (by kernel_rfl) (by simp) (by simp [Value.oneCell']) (aF (aF aN)) (aF aN) rfl ?_
           intro s2 xa hcs
           replace ko:=hcs
           replace k3:=xa.cb k3 (by simp;omega)
           refine aP trivial rfl rfl rfl rfl rfl rfl (eu _) ?_
           refine bV (cs':=[.bool fI,.slice fC fD fE,.bool jA,.slice ji jk jl]) ko 2 [.bool jA,.slice ji jk jl] rfl rfl rfl rfl rfl rfl (by kernel_rfl) (by simp) (by simp [Value.oneCell']) (aF (aF aN)) (aF aN) rfl ?_
           intro s3 xb hcs
           replace ko:=hcs
           replace k3:=xb.cb k3 (by simp;omega)
           refine Pl.ak ?_
           refine Pl.bK _ ?_ (hK _ _ ⟨⟨ko,xa.trans xb⟩,rfl⟩)
           exact (Pl.aa rfl (Pl.aa rfl (Pl.aa rfl (Pl.aa rfl (Pl.aa rfl (Pl.aa rfl (Pl.aa rfl (Pl.aa rfl Pl.aK))))))))
         · refine bV (cs':=[.bool fI,.slice fC fD fE,.bool fI,.slice fC fD fE]) ko 0 [.bool fI,.slice fC fD fE] rfl rfl rfl rfl rfl rfl (by kernel_rfl) (by simp) (by simp [Value.oneCell']) (aF (aF aN)) (aF aN) rfl ?_
           intro s2 xa hcs
           replace ko:=hcs
           replace k3:=xa.cb k3 (by simp;omega)
           refine Pl.ak ?_
           refine Pl.aS [(true,10,991)] 2015 6 Pl.aD (by kernel_rfl) (by kernel_rfl) (by kernel_rfl) ?_
           refine aP trivial rfl rfl rfl rfl rfl rfl (eu _) ?_
           refine Pl.ak ?_
           refine Pl.dY [5,11] 5 (by kernel_rfl) (by kernel_rfl) (by kernel_rfl) (Pl.aJ ?_ (Pl.aJ ?_ Pl.aX))
           · refine Pl.aH trivial rfl rfl rfl rfl rfl (Cb.bJ k3 4 [.bool false,.slice none 0 0,.bool p2,.slice A2 n2 c2] rfl _ _ rfl rfl (by kernel_rfl)) ?_
             refine Pl.ak ?_
             refine Pl.aS [(false,11,2047)] 4095 4 Pl.aD (by kernel_rfl) (by kernel_rfl) (by kernel_rfl) ?_
             refine bV (cs':=[.bool fI,.slice fC fD fE,.bool jA,.slice ji jk jl]) ko 2 [.bool jA,.slice ji jk jl] rfl rfl rfl rfl rfl rfl (by kernel_rfl) (by simp) (by simp [Value.oneCell']) (aF (aF aN)) (aF aN) rfl ?_
             intro s3 xb hcs
             replace ko:=hcs
             replace k3:=xb.cb k3 (by simp;omega)
             refine Pl.ak ?_
             refine Pl.bK _ ?_ (hK _ _ ⟨⟨ko,xa.trans xb⟩,rfl⟩)
             exact (Pl.aa rfl (Pl.aa rfl (Pl.aa rfl (Pl.aa rfl (Pl.aa rfl (Pl.aa rfl (Pl.aa rfl (Pl.aa rfl Pl.aK))))))))
           · refine bV (cs':=[.bool fI,.slice fC fD fE,.bool jA,.slice ji jk jl]) ko 2 [.bool jA,.slice ji jk jl] rfl rfl rfl rfl rfl rfl (by kernel_rfl) (by simp) (by simp [Value.oneCell']) (aF (aF aN)) (aF aN) rfl ?_
             intro s3 xb hcs
             replace ko:=hcs
             replace k3:=xb.cb k3 (by simp;omega)
             refine Pl.ak ?_
             refine Pl.aS [(false,5,4063)] 4095 4 Pl.aD (by kernel_rfl) (by kernel_rfl) (by kernel_rfl) ?_
             refine Pl.aH trivial rfl rfl rfl rfl rfl (Cb.bJ k3 4 [.bool false,.slice none 0 0,.bool p2,.slice A2 n2 c2] rfl _ _ rfl rfl (by kernel_rfl)) ?_
             refine Pl.ak ?_
             refine Pl.bK _ ?_ (hK _ _ ⟨⟨ko,xa.trans xb⟩,rfl⟩)
             exact (Pl.aa rfl (Pl.aa rfl (Pl.aa rfl (Pl.aa rfl (Pl.aa rfl (Pl.aa rfl (Pl.aa rfl (Pl.aa rfl Pl.aK))))))))
       · refine Pl.aH trivial rfl rfl rfl rfl rfl (Cb.bJ k3 4 [.bool false,.slice none 0 0,.bool p2,.slice A2 n2 c2] rfl _ _ rfl rfl (by kernel_rfl)) ?_
         refine Pl.ak ?_
         refine Pl.aS [(false,3,247),(true,8,255),(false,9,511),(true,10,1023),(false,11,2047)] 4095 4 Pl.aD (by kernel_rfl) (by kernel_rfl) (by kernel_rfl) ?_
         refine Pl.aH trivial rfl rfl rfl rfl rfl (Cb.bJ ko 0 [.bool jA,.slice ji jk jl] rfl _ _ rfl rfl (by kernel_rfl)) ?_
         refine aP trivial rfl rfl rfl rfl rfl rfl (fA _) ?_
         refine bV (cs':=[.bool fI,.slice fC fD fE,.bool fI,.slice fC fD fE]) ko 0 [.bool fI,.slice fC fD fE] rfl rfl rfl rfl rfl rfl (by kernel_rfl) (by simp) (by simp [Value.oneCell']) (aF (aF aN)) (aF aN) rfl ?_
         intro s2 xa hcs
         replace ko:=hcs
         replace k3:=xa.cb k3 (by simp;omega)
         refine aP trivial rfl rfl rfl rfl rfl rfl (eu _) ?_
         refine bV (cs':=[.bool fI,.slice fC fD fE,.bool jA,.slice ji jk jl]) ko 2 [.bool jA,.slice ji jk jl] rfl rfl rfl rfl rfl rfl (by kernel_rfl) (by simp) (by simp [Value.oneCell']) (aF (aF aN)) (aF aN) rfl ?_
         intro s3 xb hcs
         replace ko:=hcs
         replace k3:=xb.cb k3 (by simp;omega)
         refine Pl.ak ?_
         refine Pl.bK _ ?_ (hK _ _ ⟨⟨ko,xa.trans xb⟩,rfl⟩)
         exact (Pl.aa rfl (Pl.aa rfl (Pl.aa rfl (Pl.aa rfl (Pl.aa rfl (Pl.aa rfl (Pl.aa rfl (Pl.aa rfl Pl.aK))))))))
     · refine Pl.aH trivial rfl rfl rfl rfl rfl (Cb.bJ ko 0 [.bool jA,.slice ji jk jl] rfl _ _ rfl rfl (by kernel_rfl)) ?_
       refine Pl.ak ?_
       refine Pl.dY [1,5] 9 (by kernel_rfl) (by kernel_rfl) (by kernel_rfl) (Pl.aJ ?_ (Pl.aJ ?_ Pl.aX))
       · refine Pl.aH trivial rfl rfl rfl rfl rfl (Cb.bJ ko 2 [.bool fI,.slice fC fD fE] rfl _ _ rfl rfl (by kernel_rfl)) ?_
         refine Pl.ak ?_
         refine Pl.aS [(true,8,223)] 479 8 Pl.aD (by kernel_rfl) (by kernel_rfl) (by kernel_rfl) ?_
         refine aP trivial rfl rfl rfl rfl rfl rfl (fA _) ?_
         refine Pl.ak ?_
         refine Pl.dY [5,9] 7 (by kernel_rfl) (by kernel_rfl) (by kernel_rfl) (Pl.aJ ?_ (Pl.aJ ?_ Pl.aX))
         · refine Pl.aH trivial rfl rfl rfl rfl rfl (Cb.bJ k3 4 [.bool false,.slice none 0 0,.bool p2,.slice A2 n2 c2] rfl _ _ rfl rfl (by kernel_rfl)) ?_
           refine Pl.ak ?_
           refine Pl.aS [(false,9,511),(true,10,1023),(false,11,2047)] 4095 4 Pl.aD (by kernel_rfl) (by kernel_rfl) (by kernel_rfl) ?_
           refine bV (cs':=[.bool fI,.slice fC fD fE,.bool fI,.slice fC fD fE]) ko 0 [.bool fI,.slice fC fD fE] rfl rfl rfl rfl rfl rfl (by kernel_rfl) (by simp) (by simp [Value.oneCell']) (aF (aF aN)) (aF aN) rfl ?_
           intro s2 xa hcs
           replace ko:=hcs
           replace k3:=xa.cb k3 (by simp;omega)
           refine aP trivial rfl rfl rfl rfl rfl rfl (eu _) ?_
           refine bV (cs':=[.bool fI,.slice fC fD fE,.bool jA,.slice ji jk jl]) ko 2 [.bool jA,.slice ji jk jl] rfl rfl rfl rfl rfl rfl (by kernel_rfl) (by simp) (by simp [Value.oneCell']) (aF (aF aN)) (aF aN) rfl ?_
           intro s3 xb hcs
           replace ko:=hcs
           replace k3:=xb.cb k3 (by simp;omega)
           refine Pl.ak ?_
           refine Pl.bK _ ?_ (hK _ _ ⟨⟨ko,xa.trans xb⟩,rfl⟩)
           exact (Pl.aa rfl (Pl.aa rfl (Pl.aa rfl (Pl.aa rfl (Pl.aa rfl (Pl.aa rfl (Pl.aa rfl (Pl.aa rfl Pl.aK))))))))
         · refine bV (cs':=[.bool fI,.slice fC fD fE,.bool fI,.slice fC fD fE]) ko 0 [.bool fI,.slice fC fD fE] rfl rfl rfl rfl rfl rfl (by kernel_rfl) (by simp) (by simp [Value.oneCell']) (aF (aF aN)) (aF aN) rfl ?_
           intro s2 xa hcs
           replace ko:=hcs
           replace k3:=xa.cb k3 (by simp;omega)
           refine Pl.ak ?_
           refine Pl.aS [(true,10,991)] 2015 6 Pl.aD (by kernel_rfl) (by kernel_rfl) (by kernel_rfl) ?_
           refine aP trivial rfl rfl rfl rfl rfl rfl (eu _) ?_
           refine Pl.ak ?_
           refine Pl.dY [5,11] 5 (by kernel_rfl) (by kernel_rfl) (by kernel_rfl) (Pl.aJ ?_ (Pl.aJ ?_ Pl.aX))
           · refine Pl.aH trivial rfl rfl rfl rfl rfl (Cb.bJ k3 4 [.bool false,.slice none 0 0,.bool p2,.slice A2 n2 c2] rfl _ _ rfl rfl (by kernel_rfl)) ?_
             refine Pl.ak ?_
             refine Pl.aS [(false,11,2047)] 4095 4 Pl.aD (by kernel_rfl) (by kernel_rfl) (by kernel_rfl) ?_
             refine bV (cs':=[.bool fI,.slice fC fD fE,.bool jA,.slice ji jk jl]) ko 2 [.bool jA,.slice ji jk jl] rfl rfl rfl rfl rfl rfl (by kernel_rfl) (by simp) (by simp [Value.oneCell']) (aF (aF aN)) (aF aN) rfl ?_
             intro s3 xb hcs
             replace ko:=hcs
             replace k3:=xb.cb k3 (by simp;omega)
             refine Pl.ak ?_
             refine Pl.bK _ ?_ (hK _ _ ⟨⟨ko,xa.trans xb⟩,rfl⟩)
             exact (Pl.aa rfl (Pl.aa rfl (Pl.aa rfl (Pl.aa rfl (Pl.aa rfl (Pl.aa rfl (Pl.aa rfl (Pl.aa rfl Pl.aK))))))))
           · refine bV (cs':=[.bool fI,.slice fC fD fE,.bool jA,.slice ji jk jl]) ko 2 [.bool jA,.slice ji jk jl] rfl rfl rfl rfl rfl rfl (by kernel_rfl) (by simp) (by simp [Value.oneCell']) (aF (aF aN)) (aF aN) rfl ?_
             intro s3 xb hcs
             replace ko:=hcs
             replace k3:=xb.cb k3 (by simp;omega)
             refine Pl.ak ?_
             refine Pl.aS [(false,5,4063)] 4095 4 Pl.aD (by kernel_rfl) (by kernel_rfl) (by kernel_rfl) ?_
             refine Pl.aH trivial rfl rfl rfl rfl rfl (Cb.bJ k3 4 [.bool false,.slice none 0 0,.bool p2,.slice A2 n2 c2] rfl _ _ rfl rfl (by kernel_rfl)) ?_
             refine Pl.ak ?_
             refine Pl.bK _ ?_ (hK _ _ ⟨⟨ko,xa.trans xb⟩,rfl⟩)
             exact (Pl.aa rfl (Pl.aa rfl (Pl.aa rfl (Pl.aa rfl (Pl.aa rfl (Pl.aa rfl (Pl.aa rfl (Pl.aa rfl Pl.aK))))))))
       · refine Pl.aH trivial rfl rfl rfl rfl rfl (Cb.bJ k3 4 [.bool false,.slice none 0 0,.bool p2,.slice A2 n2 c2] rfl _ _ rfl rfl (by kernel_rfl)) ?_
         refine Pl.ak ?_
         refine Pl.aS [(false,1,253),(true,8,255),(false,9,511),(true,10,1023),(false,11,2047)] 4095 4 Pl.aD (by kernel_rfl) (by kernel_rfl) (by kernel_rfl) ?_
         refine Pl.aH trivial rfl rfl rfl rfl rfl (Cb.bJ ko 2 [.bool fI,.slice fC fD fE] rfl _ _ rfl rfl (by kernel_rfl)) ?_
         refine aP trivial rfl rfl rfl rfl rfl rfl (fA _) ?_
         refine bV (cs':=[.bool fI,.slice fC fD fE,.bool fI,.slice fC fD fE]) ko 0 [.bool fI,.slice fC fD fE] rfl rfl rfl rfl rfl rfl (by kernel_rfl) (by simp) (by simp [Value.oneCell']) (aF (aF aN)) (aF aN) rfl ?_
         intro s2 xa hcs
         replace ko:=hcs
         replace k3:=xa.cb k3 (by simp;omega)
         refine aP trivial rfl rfl rfl rfl rfl rfl (eu _) ?_
         refine bV (cs':=[.bool fI,.slice fC fD fE,.bool jA,.slice ji jk jl]) ko 2 [.bool jA,.slice ji jk jl] rfl rfl rfl rfl rfl rfl (by kernel_rfl) (by simp) (by simp [Value.oneCell']) (aF (aF aN)) (aF aN) rfl ?_
         intro s3 xb hcs
         replace ko:=hcs
         replace k3:=xb.cb k3 (by simp;omega)
         refine Pl.ak ?_
         refine Pl.bK _ ?_ (hK _ _ ⟨⟨ko,xa.trans xb⟩,rfl⟩)
         exact (Pl.aa rfl (Pl.aa rfl (Pl.aa rfl (Pl.aa rfl (Pl.aa rfl (Pl.aa rfl (Pl.aa rfl (Pl.aa rfl Pl.aK))))))))
     · refine Pl.aH trivial rfl rfl rfl rfl rfl (Cb.bJ k3 4 [.bool false,.slice none 0 0,.bool p2,.slice A2 n2 c2] rfl _ _ rfl rfl (by kernel_rfl)) ?_
       refine Pl.ak ?_
       refine Pl.dY [1,3] 9 (by kernel_rfl) (by kernel_rfl) (by kernel_rfl) (Pl.aJ ?_ (Pl.aJ ?_ Pl.aX))
       · refine Pl.aH trivial rfl rfl rfl rfl rfl (Cb.bJ ko 2 [.bool fI,.slice fC fD fE] rfl _ _ rfl rfl (by kernel_rfl)) ?_
         refine Pl.ak ?_
         refine Pl.aS [(false,3,247),(true,8,255),(false,9,511),(true,10,1023),(false,11,2047)] 4095 4 Pl.aD (by kernel_rfl) (by kernel_rfl) (by kernel_rfl) ?_
         refine Pl.aH trivial rfl rfl rfl rfl rfl (Cb.bJ ko 0 [.bool jA,.slice ji jk jl] rfl _ _ rfl rfl (by kernel_rfl)) ?_
         refine aP trivial rfl rfl rfl rfl rfl rfl (fA _) ?_
         refine bV (cs':=[.bool fI,.slice fC fD fE,.bool fI,.slice fC fD fE]) ko 0 [.bool fI,.slice fC fD fE] rfl rfl rfl rfl rfl rfl (by kernel_rfl) (by simp) (by simp [Value.oneCell']) (aF (aF aN)) (aF aN) rfl ?_
         intro s2 xa hcs
         replace ko:=hcs
         replace k3:=xa.cb k3 (by simp;omega)
         refine aP trivial rfl rfl rfl rfl rfl rfl (eu _) ?_
         refine bV (cs':=[.bool fI,.slice fC fD fE,.bool jA,.slice ji jk jl]) ko 2 [.bool jA,.slice ji jk jl] rfl rfl rfl rfl rfl rfl (by kernel_rfl) (by simp) (by simp [Value.oneCell']) (aF (aF aN)) (aF aN) rfl ?_
         intro s3 xb hcs
         replace ko:=hcs
         replace k3:=xb.cb k3 (by simp;omega)
         refine Pl.ak ?_
         refine Pl.bK _ ?_ (hK _ _ ⟨⟨ko,xa.trans xb⟩,rfl⟩)
         exact (Pl.aa rfl (Pl.aa rfl (Pl.aa rfl (Pl.aa rfl (Pl.aa rfl (Pl.aa rfl (Pl.aa rfl (Pl.aa rfl Pl.aK))))))))
       · refine Pl.aH trivial rfl rfl rfl rfl rfl (Cb.bJ ko 0 [.bool jA,.slice ji jk jl] rfl _ _ rfl rfl (by kernel_rfl)) ?_
         refine Pl.ak ?_
         refine Pl.aS [(false,1,253),(true,8,255),(false,9,511),(true,10,1023),(false,11,2047)] 4095 4 Pl.aD (by kernel_rfl) (by kernel_rfl) (by kernel_rfl) ?_
         refine Pl.aH trivial rfl rfl rfl rfl rfl (Cb.bJ ko 2 [.bool fI,.slice fC fD fE] rfl _ _ rfl rfl (by kernel_rfl)) ?_
         refine aP trivial rfl rfl rfl rfl rfl rfl (fA _) ?_
         refine bV (cs':=[.bool fI,.slice fC fD fE,.bool fI,.slice fC fD fE]) ko 0 [.bool fI,.slice fC fD fE] rfl rfl rfl rfl rfl rfl (by kernel_rfl) (by simp) (by simp [Value.oneCell']) (aF (aF aN)) (aF aN) rfl ?_
         intro s2 xa hcs
         replace ko:=hcs
         replace k3:=xa.cb k3 (by simp;omega)
         refine aP trivial rfl rfl rfl rfl rfl rfl (eu _) ?_
         refine bV (cs':=[.bool fI,.slice fC fD fE,.bool jA,.slice ji jk jl]) ko 2 [.bool jA,.slice ji jk jl] rfl rfl rfl rfl rfl rfl (by kernel_rfl) (by simp) (by simp [Value.oneCell']) (aF (aF aN)) (aF aN) rfl ?_
         intro s3 xb hcs
         replace ko:=hcs
         replace k3:=xb.cb k3 (by simp;omega)
         refine Pl.ak ?_
         refine Pl.bK _ ?_ (hK _ _ ⟨⟨ko,xa.trans xb⟩,rfl⟩)
         exact (Pl.aa rfl (Pl.aa rfl (Pl.aa rfl (Pl.aa rfl (Pl.aa rfl (Pl.aa rfl (Pl.aa rfl (Pl.aa rfl Pl.aK))))))))
 rintro _ s3 ⟨⟨ko2,xab⟩,rfl⟩
 replace k3:=xab.cb k3 (by simp;omega)
 replace ko:=ko2
 refine Pl.aS [(true,12,4095),(false,13,8191),(true,14,16383),(false,15,32767)] 65535 0 Pl.aD (by kernel_rfl) (by kernel_rfl) (by kernel_rfl) ?_
 refine aP trivial rfl rfl rfl rfl rfl rfl (vY _) ?_
 refine bV (cs':=[.bool false,.slice none 0 0,.bool p2,.slice A2 n2 c2,.bool false,.slice none 0 0,.bool p2,.slice A2 n2 c2]) k3 0 [.bool false,.slice none 0 0,.bool p2,.slice A2 n2 c2] rfl rfl rfl rfl rfl rfl (by kernel_rfl) (by simp) (by simp [Value.oneCell']) (aF (aF (aF (aF aN)))) (aF (aF aN)) rfl ?_
 intro s4 xc hcs
 replace k3:=hcs
 refine aP trivial rfl rfl rfl rfl rfl rfl (vZ _) ?_
 refine bV (cs':=[.bool false,.slice none 0 0,.bool p2,.slice A2 n2 c2,.bool p2,.slice A2 n2 c2,.bool false,.slice none 0 0]) k3 4 [.bool p2,.slice A2 n2 c2,.bool false,.slice none 0 0] rfl rfl rfl rfl rfl rfl (by kernel_rfl) (by simp) (by simp [Value.oneCell']) (aF (aF (aF (aF aN)))) (aF (aF aN)) rfl ?_
 intro s5 xd hcs
 replace k3:=hcs
 refine Pl.ak ?_
 refine Pl.G_V (by kernel_rfl) ?_
 have xe:Xt [No,Nm] s1 s5:=(xab.mono (by simp)).trans ((xc.mono (by simp)).trans (xd.mono (by simp)))
 replace ko:=xd.cb (xc.cb ko (by simp;omega)) (by simp;omega)
 replace k2:=xe.cb k2 (by simp;omega)
 replace k4:=xe.cb k4 (by simp;omega)
 replace Lh:=Zn.kp Lh xe.kp
 replace Li:=Zn.kp Li xe.kp
 replace hr0:=Zn.kp hr0 xe.kp
 replace hr1:=Zn.kp hr1 xe.kp
 replace hE:=hE.xt xe (by simp;have:=hB1.size;omega)
 repeat refine Pl.az ?_
 refine Pl.iN (S:=fun X=>Cb X No 78 [.bool fI,.slice fC fD fE,.bool jA,.slice ji jk jl]∧Cb X Nm 80 [.bool false,.slice none 0 0,.bool p2,.slice A2 n2 c2,.bool p2,.slice A2 n2 c2,.bool false,.slice none 0 0]∧Cb X Ns 82 [.slice Wj (limbs a).length Wl,.slice Ke (limbs b).length Kg,.bool p1,.slice A1 n1 c1,.bool false,.slice none 0 0,.bool false,.slice none 0 0,.bool p1,.slice A1 n1 c1]) [(true,0,0),(true,1,1),(true,2,3),(true,3,7),(true,4,15),(true,5,31),(true,6,63),(true,7,127),(true,8,255),(false,9,511),(true,10,1023),(false,11,2047)] fo Pl.aD (by kernel_rfl) ⟨Cb.ext ko (Ext.drew (Ext.refl _)),Cb.ext k3 (Ext.drew (Ext.refl _)),Cb.ext k2 (Ext.drew (Ext.refl _))⟩ ?_
 have hD3:=Ext.drew (Ext.refl s5)
 generalize s5.drew=s6 at *
 intro lJ
 refine aP lJ rfl rfl rfl rfl rfl rfl (fA _) ?_
 refine bg lJ rfl rfl rfl rfl rfl (ah7 _) ?_
 refine Pl.aR lJ rfl rfl rfl rfl rfl (fun X hX=>Cb.fO (j:=1) hX.1 rfl) ?_
 refine aP lJ rfl rfl rfl rfl rfl rfl (eu _) ?_
 refine bg lJ rfl rfl rfl rfl rfl (ah8 _) ?_
 refine Pl.aR lJ rfl rfl rfl rfl rfl (fun X hX=>Cb.fO (j:=3) hX.1 rfl) ?_
 refine Pl.aR lJ rfl rfl rfl rfl rfl (fun X hX=>Cb.load hX.2.1 _ _ rfl rfl (by kernel_rfl)) ?_
 refine bg lJ rfl rfl rfl rfl rfl (YD _) ?_
 refine Pl.aR lJ rfl rfl rfl rfl rfl (fun X hX=>Cb.bJ hX.2.2 2 [.bool p1,.slice A1 n1 c1,.bool false,.slice none 0 0,.bool false,.slice none 0 0,.bool p1,.slice A1 n1 c1] rfl _ _ rfl rfl (by kernel_rfl)) ?_
 refine Pl.aA rfl rfl rfl rfl rfl (fun u X=>Pl.enters Tryz.func90 (by kernel_rfl) rfl u X) ?_
 refine Calls.mono (M9 _ _ _ _ _ 0 _ _ _ _ 1 _ _ _ _ 1 _ _ _ _ 0 _ _ _ _ 1 _ _ _ _ 0 _ _ _ _ 0 _ _ _ _ 1 (Zn.nil _) (Sz.lit (by decide) (by decide)) (Zn.below Li hD3) (Sz.lit (by decide) (by decide)) (Zn.below Li hD3) (Sz.lit (by decide) (by decide)) (Zn.nil _) (Sz.lit (by decide) (by decide)) (Zn.below Lh hD3) (Sz.lit (by decide) (by decide)) (Zn.nil _) (Sz.lit (by decide) (by decide)) (Zn.nil _) (Sz.lit (by decide) (by decide)) (Zn.below Lh hD3) (Sz.lit (by decide) (by decide))) ?_
 rintro e s7 ⟨cs,rfl,hcs,hcl,hC7⟩
 have hT7:Cb s7 No 78 [.bool fI,.slice fC fD fE,.bool jA,.slice ji jk jl]∧Cb s7 Nm 80 [.bool false,.slice none 0 0,.bool p2,.slice A2 n2 c2,.bool p2,.slice A2 n2 c2,.bool false,.slice none 0 0]∧Cb s7 Ns 82 [.slice Wj (limbs a).length Wl,.slice Ke (limbs b).length Kg,.bool p1,.slice A1 n1 c1,.bool false,.slice none 0 0,.bool false,.slice none 0 0,.bool p1,.slice A1 n1 c1]:=⟨Cb.ext lJ.1 hC7,Cb.ext lJ.2.1 hC7,Cb.ext lJ.2.2 hC7⟩
 have hG7:=hD3.below hC7
 replace k4:=Cb.ext k4 hG7
 obtain ⟨g0,B0,l0,e0,g1,B1,l1,e1,g2,B2,l2,e2,g3,B3,l3,e3,rfl⟩:=Gd.four hcs hcl
 refine ⟨_,rfl,hT7,?_⟩
 refine Pl.dV (v:=.agg ([.slice fC fD fE,.slice ji jk jl,.bool g0,.slice B0 l0 e0,.bool g1,.slice B1 l1 e1,.bool g2,.slice B2 l2 e2,.bool g3,.slice B3 l3 e3]:List Value).toArray) hT7 rfl rfl rfl (fun ρ hρ X _=>by have e71:=hρ.tmp 71 _ rfl;have e74:=hρ.tmp 74 _ rfl;have e78:=hρ.tmp 78 _ rfl;simp [go_sem,e71,e74,e78]) ?_
 have x8:Xt [Nr] s7 (s7.setRow Nr ([.slice fC fD fE,.slice ji jk jl,.bool g0,.slice B0 l0 e0,.bool g1,.slice B1 l1 e1,.bool g2,.slice B2 l2 e2,.bool g3,.slice B3 l3 e3]:List Value).toArray):=Xt.put k4 (iC (sG _ _ _) (iC (sG _ _ _) (aF (aF (aF (aF aN)))))) (by simp) _
 refine fT (new:=[.slice fC fD fE,.slice ji jk jl,.bool g0,.slice B0 l0 e0,.bool g1,.slice B1 l1 e1,.bool g2,.slice B2 l2 e2,.bool g3,.slice B3 l3 e3]) k4 rfl rfl rfl rfl rfl rfl (by kernel_rfl) rfl (by simp [Value.oneCell']) ⟨x8.cb hT7.1 (by simp;omega),x8.cb hT7.2.1 (by simp;omega),x8.cb hT7.2.2 (by simp;omega)⟩ ?_
 have k4f:=Cb.put k4 [.slice fC fD fE,.slice ji jk jl,.bool g0,.slice B0 l0 e0,.bool g1,.slice B1 l1 e1,.bool g2,.slice B2 l2 e2,.bool g3,.slice B3 l3 e3]
 generalize s7.setRow Nr ([.slice fC fD fE,.slice ji jk jl,.bool g0,.slice B0 l0 e0,.bool g1,.slice B1 l1 e1,.bool g2,.slice B2 l2 e2,.bool g3,.slice B3 l3 e3]:List Value).toArray=s8 at *
 refine Pl.ak ?_
 have as6:=Zn.mag (Zn.kp (Zn.below hr0 hG7) x8.kp)
 have as7:=Zn.mag (Zn.kp (Zn.below hr1 hG7) x8.kp)
 rw [Int.natAbs_natCast] at as6 as7
 exact l7 rfl rfl k4f rfl rfl (by kernel_rfl) ⟨_,_,_,_,_,_,[.bool g0,.slice B0 l0 e0,.bool g1,.slice B1 l1 e1,.bool g2,.slice B2 l2 e2,.bool g3,.slice B3 l3 e3],rfl,as7,as6,Gd.kp x8.kp hcs,rfl,(hE.below hG7).xt x8 (by simp;have:=hB1.size;omega)⟩
end Go.Proofs.YtnilonnkcbkdmaaGreatDoor
