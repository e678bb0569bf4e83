/- Matrices of two rows. -/
import Derived.Test.YtnilonnkcbkdmaaGreatDoorBbe

namespace Go.Proofs.YtnilonnkcbkdmaaGreatDoor
open Go.RowKit
set_option linter.all false
set_option maxRecDepth 100000
set_option maxHeartbeats 8000000
section
variable {L:List Oper} {S:World→Prop} {K:List (Nat × Value)→World→Prop} {k:Bool} {i m d:Nat} {o:Oper} {x y:Operand} {r:List (Bool × Nat × Nat)} {l:List (Nat × Value)} {w:World}
theorem Ht {T:TypeId} {cs:List Value} (ho:Pl.nth L i=some o) (hp:o.op = .box T x) (hd:o.dst=some d) (hg:o.guard=none) (hx:Pl.ig l x=some (.agg cs.toArray)) (hS:∀ Y,Ext w Y→S Y)
  (h:∀ N w',Ext w w'→w.heap.size≤N→Cb w' N T cs→Pl.gY Tryz.prog L S K r ((d,.pointer (some ⟨N,0,none⟩))::l) w'):Pl.gY Tryz.prog L S K ((false,i,m)::r) l w:=by
 have e1:=(Ext.refl w).alloc (.cells cs.toArray T)
 refine Pl.kU (w':=w.alloc (.cells cs.toArray T)) (v:=.pointer (some ⟨w.heap.size,0,none⟩)) ho hd (by rw [hg];rfl) (fun ρ hρ=>?_) (hS _ e1) (h _ _ e1 (Nat.le_refl _) (Cb.new w T cs))
 unfold execOp;rw [hp]
 refine Pl.jy _ ?_
 rw [hρ.ig hx]
 simp [Instr.box,Sem.run_bind,newVar,newRow,Value.cells]
theorem PD {T:TypeId} {u v:Value} {j:Int} (hS:S w) (ho:Pl.nth L i=some o) (hp:o.op = .index T x y) (hd:o.dst=some d) (hg:Pl.gd L l o.guard=some true) (hx:Pl.ig l x=some u) (hy:Pl.ig l y=some (.int .i64 j))
  (hr:∀ X,(Instr.index T u (.int .i64 j)).run Tryz.prog X = .ok v X)
  (h:Pl.gY Tryz.prog L S K r ((d,v)::l) w):Pl.gY Tryz.prog L S K ((k,i,m)::r) l w :=
 Pl.dV hS ho hd hg (fun ρ hρ X _=>by
  unfold execOp;rw [hp]
  refine Pl.mF _ X ?_
  rw [hρ.ig hx,hρ.ig hy]
  exact hr X) h
end
def uE (cs:List Value):Nat→List Value→List Value
 | _,[]=>cs
 | o,v::vs=>uE (cs.set o v) (o+1) vs
theorem Cb.uE {N:Nat} {T:TypeId}:∀ (vs:List Value) (o:Nat) {w:World} {cs:List Value},Cb w N T cs→Cb (w.setCells N o vs) N T (uE cs o vs)
 | [],_,_,_,h=>h
 | v::vs,o,_,_,h=>Cb.uE vs (o+1) (Cb.set h o v)
theorem PE {cs:List Value} {v:Value} (o:Nat) (h:∀ c∈cs,dQ c) (hv:dQ v):∀ c∈cs.set o v,dQ c:=fun c hc=>by
 rcases List.mem_or_eq_of_mem_set hc with h1 | h1
 · exact h c h1
 · rw [h1];exact hv
theorem Xt.uE {N:Nat} {T:TypeId}:∀ (vs:List Value) (o:Nat) {w:World} {cs:List Value},Cb w N T cs→(∀ c∈cs,dQ c)→(∀ c∈vs,dQ c)→Xt [N] w (w.setCells N o vs)
 | [],_,w,_,_,_,_=>Xt.refl _ w
 | v::vs,o,_,_,h,hc,hv=>(Xt.set h hc (by simp) o v).trans (Xt.uE vs (o+1) (Cb.set h o v) (PE o hc (hv v (by simp))) fun c hc=>hv c (by simp [hc]))
theorem Cb.A9 {w:World} {N:Nat} {T:TypeId} {cs:List Value} (h:Cb w N T cs) (o:Nat) (vs:List Value) (hl:o+vs.length≤cs.length) (ty:TypeId) (hi:(Tryz.prog.info? ty).map (·.size)=some vs.length) (h1:∀ v∈vs,v.oneCell'=true) :
  (Instr.storeAt ty (.pointer (some ⟨N,o,none⟩)) (.agg vs.toArray)).run Tryz.prog w = .ok () (w.setCells N o vs):=by
 have ht:w.there N o vs.toArray.size:=fun j hj=>by
  have hj:j<vs.length:=by simpa using hj
  have hlt:o+j<cs.length:=by omega
  refine ⟨by rw [h.cellAt (List.getElem?_eq_getElem hlt)];rfl,?_⟩
  unfold Cb at h
  simp [World.frozen?,h]
 have:=run_storeAt_mid (P:=Tryz.prog) w N o ty vs.toArray ht (by simpa using hi) (all_oneCell_toArray h1)
 simpa using this
def Gd (w:World) (K:Nat):List Value→Prop
 | []=>True
 | .bool b::.slice A n c::l=>(∃ z,Zn w (.agg #[.bool b,.slice A n c]) z∧Sz z K)∧Gd w K l
 | _=>False
theorem Zn.nil (w:World):Zn w (.agg #[.bool false,.slice none 0 0]) 0:=Zn.zero _ _ _
theorem ay' (b:Bool):dQ (.bool b):=fun k e=>by cases e
theorem sG (A:Option Addr) (n c:Nat):dQ (.slice A n c):=fun k e=>by cases e
theorem vY (N:Nat) (X:World):(Instr.indexAt 80 (.pointer (some ⟨N,0,none⟩)) (.int .i64 0)).run Tryz.prog X = .ok (.pointer (some ⟨N,0,none⟩)) X:=by go_simp
theorem fA (N:Nat) (X:World):(Instr.indexAt 78 (.pointer (some ⟨N,0,none⟩)) (.int .i64 0)).run Tryz.prog X = .ok (.pointer (some ⟨N,0,none⟩)) X:=by go_simp
theorem M7 (N:Nat) (X:World):(Instr.indexAt 78 (.pointer (some ⟨N,4,none⟩)) (.int .i64 0)).run Tryz.prog X = .ok (.pointer (some ⟨N,4,none⟩)) X:=by go_simp
theorem vZ (N:Nat) (X:World):(Instr.indexAt 80 (.pointer (some ⟨N,0,none⟩)) (.int .i64 1)).run Tryz.prog X = .ok (.pointer (some ⟨N,4,none⟩)) X:=by go_simp
theorem eu (N:Nat) (X:World):(Instr.indexAt 78 (.pointer (some ⟨N,0,none⟩)) (.int .i64 1)).run Tryz.prog X = .ok (.pointer (some ⟨N,2,none⟩)) X:=by go_simp
theorem M8 (N:Nat) (X:World):(Instr.indexAt 78 (.pointer (some ⟨N,4,none⟩)) (.int .i64 1)).run Tryz.prog X = .ok (.pointer (some ⟨N,6,none⟩)) X:=by go_simp
theorem aza (c0 c1 c2 c3 c4 c5 c6 c7:Value) (X:World):(Instr.index 80 (.agg #[c0,c1,c2,c3,c4,c5,c6,c7]) (.int .i64 0)).run Tryz.prog X = .ok (.agg #[c0,c1,c2,c3]) X:=by
 have hu:Tryz.prog.underlying 80 = some (.array 2 78):=by kernel_rfl
 have hs:(Tryz.prog.info? 78).map (·.size)=some 4:=by kernel_rfl
 obtain ⟨i,hi,hi2⟩:=Option.map_eq_some_iff.1 hs
 have ha:(Tryz.prog.underlying 78)=some (.array 2 27):=by kernel_rfl
 simp [Instr.index,Sem.run_bind,run_underlying hu,asIntOf,sizeOf,typeInfo,hi,hi2,Result.andThen,part,run_underlying ha,isAgg]
theorem azb (c0 c1 c2 c3 c4 c5 c6 c7:Value) (X:World):(Instr.index 80 (.agg #[c0,c1,c2,c3,c4,c5,c6,c7]) (.int .i64 1)).run Tryz.prog X = .ok (.agg #[c4,c5,c6,c7]) X:=by
 have hu:Tryz.prog.underlying 80 = some (.array 2 78):=by kernel_rfl
 have hs:(Tryz.prog.info? 78).map (·.size)=some 4:=by kernel_rfl
 obtain ⟨i,hi,hi2⟩:=Option.map_eq_some_iff.1 hs
 have ha:(Tryz.prog.underlying 78)=some (.array 2 27):=by kernel_rfl
 simp [Instr.index,Sem.run_bind,run_underlying hu,asIntOf,sizeOf,typeInfo,hi,hi2,Result.andThen,part,run_underlying ha,isAgg]
theorem iC {v:Value} {l:List Value} (h:dQ v) (h2:∀ c∈l,dQ c):∀ c∈v::l,dQ c:=fun c hc=>by
 rcases List.mem_cons.1 hc with rfl | hc
 · exact h
 · exact h2 c hc
theorem aN:∀ c∈([]:List Value),dQ c:=fun c hc=>by cases hc
theorem aF {b:Bool} {A:Option Addr} {n c:Nat} {l:List Value} (h:∀ c∈l,dQ c):∀ v∈Value.bool b::.slice A n c::l,dQ v:=iC (ay' b) (iC (sG A n c) h)
theorem tZ (w:World)  :
  Calls Tryz.prog 87 #[] w fun e w'=>∃ p1 A1 n1 c1,e = .returned (.agg #[.bool p1,.slice A1 n1 c1,.bool false,.slice none 0 0,.bool false,.slice none 0 0,.bool p1,.slice A1 n1 c1])∧Zn w' (.agg #[.bool p1,.slice A1 n1 c1]) 1∧Ext w w':=by
 refine Pl.aV (n:=10) (vs:=[]) Tryz.func87 rfl (by kernel_rfl) (by simp) ?_
 repeat refine Pl.az ?_
 refine Pl.ay (by kernel_rfl) ?_
 refine eH rfl rfl rfl rfl (z:=.agg ([.bool false,.slice none 0 0,.bool false,.slice none 0 0,.bool false,.slice none 0 0,.bool false,.slice none 0 0]:List Value).toArray) (by kernel_rfl) (fun _ _=>trivial) ?_
 intro N0 w1 hB1 hN0 k0
 refine Pl.ak ?_
 replace k0:Cb w1 N0 80 [.bool false,.slice none 0 0,.bool false,.slice none 0 0,.bool false,.slice none 0 0,.bool false,.slice none 0 0]:=k0
 repeat refine Pl.az ?_
 refine Pl.ay (by kernel_rfl) ?_
 refine Pl.aA rfl rfl rfl rfl rfl (fun u X=>Pl.enters Tryz.func41 (by kernel_rfl) rfl u X) ?_
 refine Calls.mono (zof _ 1 (by decide) (by decide)) ?_
 rintro e w2 ⟨v1,rfl,hz1,hB2⟩
 refine ⟨_,rfl,trivial,?_⟩
 obtain ⟨p1,A1,n1,c1,rfl⟩:=Zn.sh hz1
 refine eH rfl rfl rfl rfl (z:=.agg #[.bool false,.slice none 0 0]) (by kernel_rfl) (fun _ _=>trivial) ?_
 intro N1 w3 hB3 hN1 k1
 replace k1:Cb w3 N1 27 [.bool false,.slice none 0 0]:=k1
 refine fT (new:=[.bool p1,.slice A1 n1 c1]) k1 rfl rfl rfl rfl rfl rfl (by kernel_rfl) rfl (by simp [Value.oneCell']) trivial ?_
 have k1b:=Cb.put k1 [.bool p1,.slice A1 n1 c1]
 have x4:Xt [N1] w3 (w3.setRow N1 ([.bool p1,.slice A1 n1 c1]:List Value).toArray):=Xt.put k1 (aF aN) (by simp) _
 have n01:N0≠N1:=by have:=(Cb.ext k0 hB2).lt;omega
 have k0b:=x4.cb (Cb.ext k0 (hB2.below hB3)) (by simpa using n01)
 have hwn:w.heap.size≤N1:=Nat.le_trans (hB1.below hB2).size hN1
 have wZ:=(hB1.below (hB2.below hB3)).xt x4 (by simpa using hwn)
 have hz4:=Zn.kp (Zn.below hz1 hB3) x4.kp
 generalize w3.setRow N1 ([.bool p1,.slice A1 n1 c1]:List Value).toArray=w4 at *
 refine Pl.ak ?_
 repeat refine Pl.az ?_
 refine Pl.ay (by kernel_rfl) ?_
 refine Pl.aH trivial rfl rfl rfl rfl rfl (Cb.load k1b _ _ rfl rfl (by kernel_rfl)) ?_
 refine Pl.dV (v:=.agg ([.bool false,.slice none 0 0]:List Value).toArray) trivial rfl rfl rfl (fun ρ hρ X _=>by simp [go_sem]) ?_
 refine Pl.dV (v:=.agg ([.bool p1,.slice A1 n1 c1,.bool false,.slice none 0 0]:List Value).toArray) trivial rfl rfl rfl (fun ρ hρ X _=>by have e3:=hρ.tmp 3 _ rfl;have e4:=hρ.tmp 4 _ rfl;simp [go_sem,e3,e4]) ?_
 refine Pl.dV (v:=.agg ([.bool false,.slice none 0 0]:List Value).toArray) trivial rfl rfl rfl (fun ρ hρ X _=>by simp [go_sem]) ?_
 refine Pl.aH trivial rfl rfl rfl rfl rfl (Cb.load k1b _ _ rfl rfl (by kernel_rfl)) ?_
 refine Pl.dV (v:=.agg ([.bool false,.slice none 0 0,.bool p1,.slice A1 n1 c1]:List Value).toArray) trivial rfl rfl rfl (fun ρ hρ X _=>by have e6:=hρ.tmp 6 _ rfl;have e7:=hρ.tmp 7 _ rfl;simp [go_sem,e6,e7]) ?_
 refine Pl.dV (v:=.agg ([.bool p1,.slice A1 n1 c1,.bool false,.slice none 0 0,.bool false,.slice none 0 0,.bool p1,.slice A1 n1 c1]:List Value).toArray) trivial rfl rfl rfl (fun ρ hρ X _=>by have e5:=hρ.tmp 5 _ rfl;have e8:=hρ.tmp 8 _ rfl;simp [go_sem,e5,e8]) ?_
 refine fT (new:=[.bool p1,.slice A1 n1 c1,.bool false,.slice none 0 0,.bool false,.slice none 0 0,.bool p1,.slice A1 n1 c1]) k0b rfl rfl rfl rfl rfl rfl (by kernel_rfl) rfl (by simp [Value.oneCell']) trivial ?_
 have k0c:=Cb.put k0b [.bool p1,.slice A1 n1 c1,.bool false,.slice none 0 0,.bool false,.slice none 0 0,.bool p1,.slice A1 n1 c1]
 have x5:Xt [N0] w4 (w4.setRow N0 ([.bool p1,.slice A1 n1 c1,.bool false,.slice none 0 0,.bool false,.slice none 0 0,.bool p1,.slice A1 n1 c1]:List Value).toArray):=Xt.put k0b (aF (aF (aF (aF aN)))) (by simp) _
 generalize w4.setRow N0 ([.bool p1,.slice A1 n1 c1,.bool false,.slice none 0 0,.bool false,.slice none 0 0,.bool p1,.slice A1 n1 c1]:List Value).toArray=w5 at *
 refine Pl.ak ?_
 exact l7 rfl rfl k0c rfl rfl (by kernel_rfl) ⟨p1,A1,n1,c1,rfl,Zn.kp hz4 x5.kp,wZ.xt x5 (by simp;omega)⟩
theorem pU (w:World) (p0:Bool) (A0:Option Addr) (n0 c0:Nat) (z0:Int) (p1:Bool) (A1:Option Addr) (n1 c1:Nat) (z1:Int) (p2:Bool) (A2:Option Addr) (n2 c2:Nat) (z2:Int) (p3:Bool) (A3:Option Addr) (n3 c3:Nat) (z3:Int) (h0:Zn w (.agg #[.bool p0,.slice A0 n0 c0]) z0) (b0:Sz z0 10) (h1:Zn w (.agg #[.bool p1,.slice A1 n1 c1]) z1) (b1:Sz z1 10) (h2:Zn w (.agg #[.bool p2,.slice A2 n2 c2]) z2) (b2:Sz z2 100) (h3:Zn w (.agg #[.bool p3,.slice A3 n3 c3]) z3) (b3:Sz z3 100) :
  Calls Tryz.prog 110 #[.agg #[.bool p0,.slice A0 n0 c0,.bool p1,.slice A1 n1 c1],.agg #[.bool p2,.slice A2 n2 c2],.agg #[.bool p3,.slice A3 n3 c3]] w fun e w'=>∃ p8 A8 n8 c8,e = .returned (.agg #[.bool p8,.slice A8 n8 c8])∧Zn w' (.agg #[.bool p8,.slice A8 n8 c8]) (z0*z2+z1*z3)∧Ext w w':=by
 refine Pl.aV (n:=16) (vs:=[.agg #[.bool p0,.slice A0 n0 c0,.bool p1,.slice A1 n1 c1],.agg #[.bool p2,.slice A2 n2 c2],.agg #[.bool p3,.slice A3 n3 c3]]) Tryz.func110 rfl (by kernel_rfl) (by simp) ?_
 repeat refine Pl.az ?_
 refine Pl.ay (by kernel_rfl) ?_
 refine Ht (cs:=[.bool p0,.slice A0 n0 c0,.bool p1,.slice A1 n1 c1]) rfl rfl rfl rfl rfl (fun _ _=>trivial) ?_
 intro N1 w1 hB1 hN1 k1
 refine Ht (cs:=[.bool p2,.slice A2 n2 c2]) rfl rfl rfl rfl rfl (fun _ _=>trivial) ?_
 intro N2 w2 hB2 hN2 k2
 refine Ht (cs:=[.bool p3,.slice A3 n3 c3]) rfl rfl rfl rfl rfl (fun _ _=>trivial) ?_
 intro N3 w3 hB3 hN3 k3
 refine eH rfl rfl rfl rfl (z:=.agg #[.bool false,.slice none 0 0]) (by kernel_rfl) (fun _ _=>trivial) ?_
 intro N4 w4 hB4 RG k4
 replace k4:Cb w4 N4 27 [.bool false,.slice none 0 0]:=k4
 refine Pl.ak ?_
 replace k1:=Cb.ext k1 (hB2.below hB3)
 replace k2:=Cb.ext k2 hB3
 have pE:=hB1.below (hB2.below hB3)
 repeat refine Pl.az ?_
 refine Pl.iN (S:=fun X=>Ext w3 X) [(true,0,0),(true,1,1),(true,2,3),(true,4,7),(true,5,23),(true,6,55),(false,3,119),(false,7,127),(false,8,255),(false,9,511)] fo Pl.aD (by kernel_rfl) (hB4.below (Ext.drew (Ext.refl w4))) ?_
 have bH:=Ext.drew (Ext.refl w4)
 have zS:=hB4.below bH
 generalize w4.drew=w5 at *
 intro hS5
 have m1:=Sz.mul (M:=110) b0 b2 (by decide)
 have m2:=Sz.mul (M:=110) b1 b3 (by decide)
 refine aP hS5 rfl rfl rfl rfl rfl rfl (fA _) ?_
 refine Pl.aR hS5 rfl rfl rfl rfl rfl (fun X hX=>Cb.bJ (Cb.ext k1 hX) 0 [.bool p0,.slice A0 n0 c0] rfl _ _ rfl rfl (by kernel_rfl)) ?_
 refine Pl.aR hS5 rfl rfl rfl rfl rfl (fun X hX=>Cb.bJ (Cb.ext k2 hX) 0 [.bool p2,.slice A2 n2 c2] rfl _ _ rfl rfl (by kernel_rfl)) ?_
 refine aP hS5 rfl rfl rfl rfl rfl rfl (eu _) ?_
 refine Pl.aR hS5 rfl rfl rfl rfl rfl (fun X hX=>Cb.bJ (Cb.ext k1 hX) 2 [.bool p1,.slice A1 n1 c1] rfl _ _ rfl rfl (by kernel_rfl)) ?_
 refine Pl.aR hS5 rfl rfl rfl rfl rfl (fun X hX=>Cb.bJ (Cb.ext k3 hX) 0 [.bool p3,.slice A3 n3 c3] rfl _ _ rfl rfl (by kernel_rfl)) ?_
 refine Pl.aA rfl rfl rfl rfl rfl (fun u X=>Pl.enters Tryz.func45 (by kernel_rfl) rfl u X) ?_
 refine Calls.mono (Ye _ _ _ z0 z2 (Zn.below h0 (pE.below zS)) (Zn.below h2 (pE.below zS)) (Nat.le_trans b0 (by decide)) (Nat.le_trans b2 (by decide)) _ rfl) ?_
 rintro e w6 ⟨v6,rfl,h6,aZ⟩
 have lJ:=hS5.below aZ
 refine ⟨_,rfl,lJ,?_⟩
 refine Pl.aA rfl rfl rfl rfl rfl (fun u X=>Pl.enters Tryz.func45 (by kernel_rfl) rfl u X) ?_
 refine Calls.mono (Ye _ _ _ z1 z3 (Zn.below h1 (pE.below (zS.below aZ))) (Zn.below h3 (pE.below (zS.below aZ))) (Nat.le_trans b1 (by decide)) (Nat.le_trans b3 (by decide)) _ rfl) ?_
 rintro e w7 ⟨v7,rfl,h7,bW⟩
 have pF:=lJ.below bW
 refine ⟨_,rfl,pF,?_⟩
 refine Pl.aA rfl rfl rfl rfl rfl (fun u X=>Pl.enters Tryz.func75 (by kernel_rfl) rfl u X) ?_
 refine Calls.mono (asF _ _ _ (z0*z2) (z1*z3) (Zn.below h6 bW) h7 (Nat.le_trans m1 (by decide)) (Nat.le_trans m2 (by decide)) _ rfl) ?_
 rintro e w8 ⟨v8,rfl,h8,cB⟩
 have oG:=pF.below cB
 obtain ⟨p8,A8,n8,c8,rfl⟩:=Zn.sh h8
 have k4b:=Cb.ext k4 (bH.below (aZ.below (bW.below cB)))
 refine ⟨_,rfl,oG,?_⟩
 have x9:Xt [N4] w8 (w8.setRow N4 ([.bool p8,.slice A8 n8 c8]:List Value).toArray):=Xt.put k4b (aF aN) (by simp) _
 refine fT (new:=[.bool p8,.slice A8 n8 c8]) k4b rfl rfl rfl rfl rfl rfl (by kernel_rfl) rfl (by simp [Value.oneCell']) (oG.xt x9 (by simpa using RG)) ?_
 have k4c:=Cb.put k4b [.bool p8,.slice A8 n8 c8]
 generalize w8.setRow N4 ([.bool p8,.slice A8 n8 c8]:List Value).toArray=w9 at *
 refine Pl.ak ?_
 exact l7 rfl rfl k4c rfl rfl (by kernel_rfl) ⟨p8,A8,n8,c8,rfl,Zn.kp h8 x9.kp,(pE.below oG).xt x9 (by simp;exact Nat.le_trans pE.size RG)⟩
theorem M9 (w:World) (ps0:Bool) (VD:Option Addr) (ns0 cs0:Nat) (zs0:Int) (ps1:Bool) (VE:Option Addr) (VF cs1:Nat) (zs1:Int) (ps2:Bool) (VG:Option Addr) (VH cs2:Nat) (zs2:Int) (VJ:Bool) (VK:Option Addr) (VL O0:Nat) (zs3:Int) (VM:Bool) (VN:Option Addr) (VO VP:Nat) (zm0:Int) (VQ:Bool) (VR:Option Addr) (VS VT:Nat) (zm1:Int) (VU:Bool) (VV:Option Addr) (VW VX:Nat) (zm2:Int) (VY:Bool) (VZ:Option Addr) (V3 V4:Nat) (zm3:Int) (hs0:Zn w (.agg #[.bool ps0,.slice VD ns0 cs0]) zs0) (bs0:Sz zs0 1) (hs1:Zn w (.agg #[.bool ps1,.slice VE VF cs1]) zs1) (bs1:Sz zs1 1) (hs2:Zn w (.agg #[.bool ps2,.slice VG VH cs2]) zs2) (bs2:Sz zs2 1) (hs3:Zn w (.agg #[.bool VJ,.slice VK VL O0]) zs3) (bs3:Sz zs3 1) (hm0:Zn w (.agg #[.bool VM,.slice VN VO VP]) zm0) (bm0:Sz zm0 1) (hm1:Zn w (.agg #[.bool VQ,.slice VR VS VT]) zm1) (bm1:Sz zm1 1) (hm2:Zn w (.agg #[.bool VU,.slice VV VW VX]) zm2) (bm2:Sz zm2 1) (OD:Zn w (.agg #[.bool VY,.slice VZ V3 V4]) zm3) (bm3:Sz zm3 1) :
  Calls Tryz.prog 90 #[.agg #[.bool ps0,.slice VD ns0 cs0,.bool ps1,.slice VE VF cs1,.bool ps2,.slice VG VH cs2,.bool VJ,.slice VK VL O0],.agg #[.bool VM,.slice VN VO VP,.bool VQ,.slice VR VS VT,.bool VU,.slice VV VW VX,.bool VY,.slice VZ V3 V4]] w fun e w'=>∃ cs,e = .returned (.agg cs.toArray)∧Gd w' 3 cs∧cs.length=8∧Ext w w':=by
 refine Pl.aV (n:=34) (vs:=[.agg #[.bool ps0,.slice VD ns0 cs0,.bool ps1,.slice VE VF cs1,.bool ps2,.slice VG VH cs2,.bool VJ,.slice VK VL O0],.agg #[.bool VM,.slice VN VO VP,.bool VQ,.slice VR VS VT,.bool VU,.slice VV VW VX,.bool VY,.slice VZ V3 V4]]) Tryz.func90 rfl (by kernel_rfl) (by simp) ?_
 repeat refine Pl.az ?_
 refine Pl.ay (by kernel_rfl) ?_
 refine Ht (cs:=[.bool ps0,.slice VD ns0 cs0,.bool ps1,.slice VE VF cs1,.bool ps2,.slice VG VH cs2,.bool VJ,.slice VK VL O0]) rfl rfl rfl rfl rfl (fun _ _=>trivial) ?_
 intro N1 w1 hB1 hN1 k1
 refine Ht (cs:=[.bool VM,.slice VN VO VP,.bool VQ,.slice VR VS VT,.bool VU,.slice VV VW VX,.bool VY,.slice VZ V3 V4]) rfl rfl rfl rfl rfl (fun _ _=>trivial) ?_
 intro N2 w2 hB2 hN2 k2
 refine eH rfl rfl rfl rfl (z:=.agg ([.bool false,.slice none 0 0,.bool false,.slice none 0 0,.bool false,.slice none 0 0,.bool false,.slice none 0 0]:List Value).toArray) (by kernel_rfl) (fun _ _=>trivial) ?_
 intro N3 w3 hB3 hN3 k3
 replace k3:Cb w3 N3 80 [.bool false,.slice none 0 0,.bool false,.slice none 0 0,.bool false,.slice none 0 0,.bool false,.slice none 0 0]:=k3
 refine Pl.ak ?_
 repeat refine Pl.az ?_
 refine Pl.ay (by kernel_rfl) ?_
 refine eH rfl rfl rfl rfl (z:=.agg ([.bool false,.slice none 0 0,.bool false,.slice none 0 0,.bool false,.slice none 0 0,.bool false,.slice none 0 0]:List Value).toArray) (by kernel_rfl) (fun _ _=>trivial) ?_
 intro N4 w4 hB4 RG k4
 replace k4:Cb w4 N4 80 [.bool false,.slice none 0 0,.bool false,.slice none 0 0,.bool false,.slice none 0 0,.bool false,.slice none 0 0]:=k4
 refine Pl.ak ?_
 have d13:N1<N2:=Nat.lt_of_lt_of_le k1.lt hN2
 have d23:N2<N3:=Nat.lt_of_lt_of_le k2.lt hN3
 have d34:N3<N4:=Nat.lt_of_lt_of_le k3.lt RG
 replace k1:=Cb.ext k1 (hB2.below (hB3.below hB4))
 replace k2:=Cb.ext k2 (hB3.below hB4)
 replace k3:=Cb.ext k3 hB4
 have wZ:=hB1.below (hB2.below (hB3.below hB4))
 have hw1:w.heap.size≤N1:=hN1
 replace hs0:=Zn.below hs0 wZ
 replace hs1:=Zn.below hs1 wZ
 replace hs2:=Zn.below hs2 wZ
 replace hs3:=Zn.below hs3 wZ
 replace hm0:=Zn.below hm0 wZ
 replace hm1:=Zn.below hm1 wZ
 replace hm2:=Zn.below hm2 wZ
 replace OD:=Zn.below OD wZ
 repeat refine Pl.az ?_
 refine Pl.ay (by kernel_rfl) ?_
 refine Pl.aH trivial rfl rfl rfl rfl rfl (Cb.load k1 _ _ rfl rfl (by kernel_rfl)) ?_
 refine Pl.ah trivial rfl rfl rfl rfl rfl ?_
 refine Pl.ak ?_
 repeat refine Pl.az ?_
 repeat refine Pl.az ?_
 refine Pl.cK ?_
 refine Pl.uU 2 ?_
 refine Pl.xX ?_
 repeat refine Pl.az ?_
 refine Pl.ay (by kernel_rfl) ?_
 refine Pl.aI (v:=.bool true) trivial rfl rfl rfl rfl rfl rfl (fun X=>jw (by decide) X) ?_
 refine Pl.ak ?_
 repeat refine Pl.az ?_
 refine Pl.dh rfl ?_
 repeat refine Pl.az ?_
 refine Pl.bN ?_
 repeat refine Pl.az ?_
 refine Pl.cK ?_
 repeat refine Pl.az ?_
 refine Pl.ay (by kernel_rfl) ?_
 refine Pl.ah trivial rfl rfl rfl rfl rfl ?_
 refine PD (v:=.agg #[.bool ps0,.slice VD ns0 cs0,.bool ps1,.slice VE VF cs1]) trivial rfl rfl rfl rfl rfl rfl (aza _ _ _ _ _ _ _ _) ?_
 refine eH rfl rfl rfl rfl (z:=.agg ([.bool false,.slice none 0 0,.bool false,.slice none 0 0]:List Value).toArray) (by kernel_rfl) (fun _ _=>trivial) ?_
 intro R0 u1 qX hR0 kr0
 replace kr0:Cb u1 R0 78 [.bool false,.slice none 0 0,.bool false,.slice none 0 0]:=kr0
 refine Pl.aj trivial rfl rfl rfl rfl rfl ?_
 refine fT (new:=[.bool ps0,.slice VD ns0 cs0,.bool ps1,.slice VE VF cs1]) kr0 rfl rfl rfl rfl rfl rfl (by kernel_rfl) rfl (by simp [Value.oneCell']) trivial ?_
 have asG:=Cb.put kr0 [.bool ps0,.slice VD ns0 cs0,.bool ps1,.slice VE VF cs1]
 have xr0:Xt [R0] u1 (u1.setRow R0 ([.bool ps0,.slice VD ns0 cs0,.bool ps1,.slice VE VF cs1]:List Value).toArray):=Xt.put kr0 (aF (aF aN)) (by simp) _
 have YC:Xt [R0] w4 (u1.setRow R0 ([.bool ps0,.slice VD ns0 cs0,.bool ps1,.slice VE VF cs1]:List Value).toArray):=(Xt.ext qX).trans xr0
 generalize u1.setRow R0 ([.bool ps0,.slice VD ns0 cs0,.bool ps1,.slice VE VF cs1]:List Value).toArray=u2 at *
 refine Pl.ak ?_
 have dr0:N4<R0:=Nat.lt_of_lt_of_le (k4).lt hR0
 have asH:=YC.cb k1 (by simp;omega)
 have ake:=YC.cb k2 (by simp;omega)
 have asI:=YC.cb k3 (by simp;omega)
 have asJ:=YC.cb k4 (by simp;omega)
 have aze:=(wZ).xt YC (by simp;have:=hB1.size;omega)
 have acy:=Zn.kp hs0 YC.kp
 have acz:=Zn.kp hs1 YC.kp
 have amB:=Zn.kp hs2 YC.kp
 have amC:=Zn.kp hs3 YC.kp
 have acA:=Zn.kp hm0 YC.kp
 have amD:=Zn.kp hm1 YC.kp
 have acB:=Zn.kp hm2 YC.kp
 have amE:=Zn.kp OD YC.kp
 repeat refine Pl.az ?_
 refine Pl.ay (by kernel_rfl) ?_
 refine Pl.ah trivial rfl rfl rfl rfl rfl ?_
 refine Pl.ak ?_
 repeat refine Pl.az ?_
 repeat refine Pl.az ?_
 refine Pl.cK ?_
 refine Pl.uU 2 ?_
 refine Pl.xX ?_
 repeat refine Pl.az ?_
 refine Pl.ay (by kernel_rfl) ?_
 refine Pl.aI (v:=.bool true) trivial rfl rfl rfl rfl rfl rfl (fun X=>jw (by decide) X) ?_
 refine Pl.ak ?_
 repeat refine Pl.az ?_
 refine Pl.dh rfl ?_
 repeat refine Pl.az ?_
 refine Pl.bN ?_
 repeat refine Pl.az ?_
 refine Pl.cK ?_
 repeat refine Pl.az ?_
 refine Pl.ay (by kernel_rfl) ?_
 refine Pl.ah trivial rfl rfl rfl rfl rfl ?_
 refine Pl.aj trivial rfl rfl rfl rfl rfl ?_
 refine Pl.ak ?_
 repeat refine Pl.az ?_
 refine Pl.iN (S:=fun X=>Cb X R0 78 [.bool ps0,.slice VD ns0 cs0,.bool ps1,.slice VE VF cs1]∧Cb X N2 80 [.bool VM,.slice VN VO VP,.bool VQ,.slice VR VS VT,.bool VU,.slice VV VW VX,.bool VY,.slice VZ V3 V4]) [(true,0,0),(true,1,1),(true,2,3),(true,3,7),(true,4,15),(true,5,31),(true,6,63),(true,7,127),(true,8,255),(true,9,511),(true,10,1023),(true,12,2047),(false,11,6143),(true,13,8191),(false,14,16383)] fo (by repeat first | exact Pl.aD | refine Pl.gW ?_ | refine Pl.jc ?_ | refine Pl.mW ?_) (by kernel_rfl) ⟨Cb.ext asG (Ext.drew (Ext.refl _)),Cb.ext ake (Ext.drew (Ext.refl _))⟩ ?_
 have acC:=Ext.drew (Ext.refl u2)
 generalize u2.drew=u3 at *
 intro zy
 refine Pl.ah zy rfl rfl rfl rfl rfl ?_
 refine Pl.ah zy rfl rfl rfl rfl rfl ?_
 refine Pl.aR zy rfl rfl rfl rfl rfl (fun X hX=>Cb.load hX.1 _ _ rfl rfl (by kernel_rfl)) ?_
 refine Pl.ah zy rfl rfl rfl rfl rfl ?_
 refine aP zy rfl rfl rfl rfl rfl rfl (vY _) ?_
 refine aP zy rfl rfl rfl rfl rfl rfl (fA _) ?_
 refine Pl.aR zy rfl rfl rfl rfl rfl (fun X hX=>Cb.bJ hX.2 0 [.bool VM,.slice VN VO VP] rfl _ _ rfl rfl (by kernel_rfl)) ?_
 refine Pl.ah zy rfl rfl rfl rfl rfl ?_
 refine aP zy rfl rfl rfl rfl rfl rfl (vZ _) ?_
 refine aP zy rfl rfl rfl rfl rfl rfl (M7 _) ?_
 refine Pl.aR zy rfl rfl rfl rfl rfl (fun X hX=>Cb.bJ hX.2 4 [.bool VU,.slice VV VW VX] rfl _ _ rfl rfl (by kernel_rfl)) ?_
 refine aP zy rfl rfl rfl rfl rfl rfl (vY _) ?_
 refine Pl.aA rfl rfl rfl rfl rfl (fun u X=>Pl.enters Tryz.func110 (by kernel_rfl) rfl u X) ?_
 refine Calls.mono (pU _ _ _ _ _ zs0 _ _ _ _ zs1 _ _ _ _ zm0 _ _ _ _ zm2 (Zn.below acy acC) (bs0.le (by decide)) (Zn.below acz acC) (bs1.le (by decide)) (Zn.below acA acC) (bm0.le (by decide)) (Zn.below acB acC) (bm2.le (by decide))) ?_
 rintro e u4 ⟨Cg,Ch,Ci,Cj,rfl,azf,acD⟩
 have amF:Cb u4 R0 78 [.bool ps0,.slice VD ns0 cs0,.bool ps1,.slice VE VF cs1]∧Cb u4 N2 80 [.bool VM,.slice VN VO VP,.bool VQ,.slice VR VS VT,.bool VU,.slice VV VW VX,.bool VY,.slice VZ V3 V4]:=⟨Cb.ext zy.1 acD,Cb.ext zy.2 acD⟩
 have asK:=acC.below acD
 have acE:=Cb.ext asJ asK
 refine ⟨_,rfl,⟨Cb.ext zy.1 acD,Cb.ext zy.2 acD⟩,?_⟩
 refine aP amF rfl rfl rfl rfl rfl rfl (fA _) ?_
 have x00:Xt [N4] u4 (u4.setCells N4 0 [.bool Cg,.slice Ch Ci Cj]):=Xt.uE _ _ acE (aF (aF (aF (aF aN)))) (aF aN)
 refine Pl.bT rfl rfl rfl rfl rfl rfl (Cb.A9 acE 0 [.bool Cg,.slice Ch Ci Cj] (by simp) _ (by kernel_rfl) (by simp [Value.oneCell'])) ⟨x00.cb amF.1 (by simp;omega),x00.cb amF.2 (by simp;omega)⟩ ?_
 have asL:Cb (u4.setCells N4 0 [.bool Cg,.slice Ch Ci Cj]) N4 80 [.bool Cg,.slice Ch Ci Cj,.bool false,.slice none 0 0,.bool false,.slice none 0 0,.bool false,.slice none 0 0]:=Cb.uE [.bool Cg,.slice Ch Ci Cj] 0 acE
 generalize u4.setCells N4 0 [.bool Cg,.slice Ch Ci Cj]=u5 at *
 refine Pl.ak ?_
 have DK:Xt [N4] u2 u5:=(Xt.ext asK).trans x00
 have asM:=DK.cb asH (by simp;omega)
 have akf:=DK.cb ake (by simp;omega)
 have asN:=DK.cb asI (by simp;omega)
 have akg:=DK.cb asG (by simp;omega)
 have azg:=(aze).xt DK (by simp;have:=hB1.size;omega)
 have acF:=Zn.kp acy DK.kp
 have acG:=Zn.kp acz DK.kp
 have amG:=Zn.kp amB DK.kp
 have amH:=Zn.kp amC DK.kp
 have amI:=Zn.kp acA DK.kp
 have acH:=Zn.kp amD DK.kp
 have amJ:=Zn.kp acB DK.kp
 have acI:=Zn.kp amE DK.kp
 have amK:=Zn.kp azf x00.kp
 refine Pl.bZ ?_
 repeat refine Pl.az ?_
 refine Pl.ay (by kernel_rfl) ?_
 refine Pl.aI (v:=.int .i64 1) trivial rfl rfl rfl rfl rfl rfl (fun X=>mM (by decide) (by decide) (by decide) X) ?_
 refine Pl.ah trivial rfl rfl rfl rfl rfl ?_
 refine Pl.ak ?_
 refine Pl.xY ?_
 refine Pl.xX ?_
 repeat refine Pl.az ?_
 refine Pl.ay (by kernel_rfl) ?_
 refine Pl.aI (v:=.bool true) trivial rfl rfl rfl rfl rfl rfl (fun X=>jw (by decide) X) ?_
 refine Pl.ak ?_
 repeat refine Pl.az ?_
 refine Pl.dh rfl ?_
 repeat refine Pl.az ?_
 refine Pl.bN ?_
 repeat refine Pl.az ?_
 refine Pl.cK ?_
 repeat refine Pl.az ?_
 refine Pl.ay (by kernel_rfl) ?_
 refine Pl.ah trivial rfl rfl rfl rfl rfl ?_
 refine Pl.aj trivial rfl rfl rfl rfl rfl ?_
 refine Pl.ak ?_
 repeat refine Pl.az ?_
 refine Pl.iN (S:=fun X=>Cb X R0 78 [.bool ps0,.slice VD ns0 cs0,.bool ps1,.slice VE VF cs1]∧Cb X N2 80 [.bool VM,.slice VN VO VP,.bool VQ,.slice VR VS VT,.bool VU,.slice VV VW VX,.bool VY,.slice VZ V3 V4]) [(true,0,0),(true,1,1),(true,2,3),(true,3,7),(true,4,15),(true,5,31),(true,6,63),(true,7,127),(true,8,255),(true,9,511),(true,10,1023),(true,12,2047),(false,11,6143),(true,13,8191),(false,14,16383)] fo (by repeat first | exact Pl.aD | refine Pl.gW ?_ | refine Pl.jc ?_ | refine Pl.mW ?_) (by kernel_rfl) ⟨Cb.ext akg (Ext.drew (Ext.refl _)),Cb.ext akf (Ext.drew (Ext.refl _))⟩ ?_
 have acJ:=Ext.drew (Ext.refl u5)
 generalize u5.drew=u6 at *
 intro zz
 refine Pl.ah zz rfl rfl rfl rfl rfl ?_
 refine Pl.ah zz rfl rfl rfl rfl rfl ?_
 refine Pl.aR zz rfl rfl rfl rfl rfl (fun X hX=>Cb.load hX.1 _ _ rfl rfl (by kernel_rfl)) ?_
 refine Pl.ah zz rfl rfl rfl rfl rfl ?_
 refine aP zz rfl rfl rfl rfl rfl rfl (vY _) ?_
 refine aP zz rfl rfl rfl rfl rfl rfl (eu _) ?_
 refine Pl.aR zz rfl rfl rfl rfl rfl (fun X hX=>Cb.bJ hX.2 2 [.bool VQ,.slice VR VS VT] rfl _ _ rfl rfl (by kernel_rfl)) ?_
 refine Pl.ah zz rfl rfl rfl rfl rfl ?_
 refine aP zz rfl rfl rfl rfl rfl rfl (vZ _) ?_
 refine aP zz rfl rfl rfl rfl rfl rfl (M8 _) ?_
 refine Pl.aR zz rfl rfl rfl rfl rfl (fun X hX=>Cb.bJ hX.2 6 [.bool VY,.slice VZ V3 V4] rfl _ _ rfl rfl (by kernel_rfl)) ?_
 refine aP zz rfl rfl rfl rfl rfl rfl (vY _) ?_
 refine Pl.aA rfl rfl rfl rfl rfl (fun u X=>Pl.enters Tryz.func110 (by kernel_rfl) rfl u X) ?_
 refine Calls.mono (pU _ _ _ _ _ zs0 _ _ _ _ zs1 _ _ _ _ zm1 _ _ _ _ zm3 (Zn.below acF acJ) (bs0.le (by decide)) (Zn.below acG acJ) (bs1.le (by decide)) (Zn.below acH acJ) (bm1.le (by decide)) (Zn.below acI acJ) (bm3.le (by decide))) ?_
 rintro e u7 ⟨DL,DN,DR,DT,rfl,azh,acK⟩
 have amL:Cb u7 R0 78 [.bool ps0,.slice VD ns0 cs0,.bool ps1,.slice VE VF cs1]∧Cb u7 N2 80 [.bool VM,.slice VN VO VP,.bool VQ,.slice VR VS VT,.bool VU,.slice VV VW VX,.bool VY,.slice VZ V3 V4]:=⟨Cb.ext zz.1 acK,Cb.ext zz.2 acK⟩
 have asO:=acJ.below acK
 have acL:=Cb.ext asL asO
 refine ⟨_,rfl,⟨Cb.ext zz.1 acK,Cb.ext zz.2 acK⟩,?_⟩
 refine aP amL rfl rfl rfl rfl rfl rfl (eu _) ?_
 have x01:Xt [N4] u7 (u7.setCells N4 2 [.bool DL,.slice DN DR DT]):=Xt.uE _ _ acL (aF (aF (aF (aF aN)))) (aF aN)
 refine Pl.bT rfl rfl rfl rfl rfl rfl (Cb.A9 acL 2 [.bool DL,.slice DN DR DT] (by simp) _ (by kernel_rfl) (by simp [Value.oneCell'])) ⟨x01.cb amL.1 (by simp;omega),x01.cb amL.2 (by simp;omega)⟩ ?_
 have akh:Cb (u7.setCells N4 2 [.bool DL,.slice DN DR DT]) N4 80 [.bool Cg,.slice Ch Ci Cj,.bool DL,.slice DN DR DT,.bool false,.slice none 0 0,.bool false,.slice none 0 0]:=Cb.uE [.bool DL,.slice DN DR DT] 2 acL
 generalize u7.setCells N4 2 [.bool DL,.slice DN DR DT]=u8 at *
 refine Pl.ak ?_
 have Ck:Xt [N4] u5 u8:=(Xt.ext asO).trans x01
 have asP:=Ck.cb asM (by simp;omega)
 have asQ:=Ck.cb akf (by simp;omega)
 have asR:=Ck.cb asN (by simp;omega)
 have aCD:=Ck.cb akg (by simp;omega)
 have azi:=(azg).xt Ck (by simp;have:=hB1.size;omega)
 have amM:=Zn.kp acF Ck.kp
 have amN:=Zn.kp acG Ck.kp
 have amO:=Zn.kp amG Ck.kp
 have amP:=Zn.kp amH Ck.kp
 have amQ:=Zn.kp amI Ck.kp
 have amR:=Zn.kp acH Ck.kp
 have amS:=Zn.kp amJ Ck.kp
 have amT:=Zn.kp acI Ck.kp
 have amU:=Zn.kp amK Ck.kp
 have amV:=Zn.kp azh x01.kp
 refine Pl.bZ ?_
 repeat refine Pl.az ?_
 refine Pl.ay (by kernel_rfl) ?_
 refine Pl.aI (v:=.int .i64 2) trivial rfl rfl rfl rfl rfl rfl (fun X=>mM (by decide) (by decide) (by decide) X) ?_
 refine Pl.ah trivial rfl rfl rfl rfl rfl ?_
 refine Pl.ak ?_
 refine Pl.xY ?_
 refine Pl.uV ?_
 repeat refine Pl.az ?_
 refine Pl.ay (by kernel_rfl) ?_
 refine Pl.aI (v:=.bool false) trivial rfl rfl rfl rfl rfl rfl (fun X=>jw (by decide) X) ?_
 refine Pl.ak ?_
 repeat refine Pl.az ?_
 refine Pl.bD rfl ?_
 repeat refine Pl.az ?_
 refine Pl.jE ?_
 refine Pl.bZ ?_
 repeat refine Pl.az ?_
 refine Pl.ay (by kernel_rfl) ?_
 refine Pl.aI (v:=.int .i64 1) trivial rfl rfl rfl rfl rfl rfl (fun X=>mM (by decide) (by decide) (by decide) X) ?_
 refine Pl.ah trivial rfl rfl rfl rfl rfl ?_
 refine Pl.ak ?_
 refine Pl.xY ?_
 refine Pl.xX ?_
 repeat refine Pl.az ?_
 refine Pl.ay (by kernel_rfl) ?_
 refine Pl.aI (v:=.bool true) trivial rfl rfl rfl rfl rfl rfl (fun X=>jw (by decide) X) ?_
 refine Pl.ak ?_
 repeat refine Pl.az ?_
 refine Pl.dh rfl ?_
 repeat refine Pl.az ?_
 refine Pl.bN ?_
 repeat refine Pl.az ?_
 refine Pl.cK ?_
 repeat refine Pl.az ?_
 refine Pl.ay (by kernel_rfl) ?_
 refine Pl.ah trivial rfl rfl rfl rfl rfl ?_
 refine PD (v:=.agg #[.bool ps2,.slice VG VH cs2,.bool VJ,.slice VK VL O0]) trivial rfl rfl rfl rfl rfl rfl (azb _ _ _ _ _ _ _ _) ?_
 refine eH rfl rfl rfl rfl (z:=.agg ([.bool false,.slice none 0 0,.bool false,.slice none 0 0]:List Value).toArray) (by kernel_rfl) (fun _ _=>trivial) ?_
 intro R1 u9 hA1 ku Vv
 replace Vv:Cb u9 R1 78 [.bool false,.slice none 0 0,.bool false,.slice none 0 0]:=Vv
 refine Pl.aj trivial rfl rfl rfl rfl rfl ?_
 refine fT (new:=[.bool ps2,.slice VG VH cs2,.bool VJ,.slice VK VL O0]) Vv rfl rfl rfl rfl rfl rfl (by kernel_rfl) rfl (by simp [Value.oneCell']) trivial ?_
 have asS:=Cb.put Vv [.bool ps2,.slice VG VH cs2,.bool VJ,.slice VK VL O0]
 have xr1:Xt [R1] u9 (u9.setRow R1 ([.bool ps2,.slice VG VH cs2,.bool VJ,.slice VK VL O0]:List Value).toArray):=Xt.put Vv (aF (aF aN)) (by simp) _
 have Ta:Xt [R1] u8 (u9.setRow R1 ([.bool ps2,.slice VG VH cs2,.bool VJ,.slice VK VL O0]:List Value).toArray):=(Xt.ext hA1).trans xr1
 generalize u9.setRow R1 ([.bool ps2,.slice VG VH cs2,.bool VJ,.slice VK VL O0]:List Value).toArray=u10 at *
 refine Pl.ak ?_
 have dr1:N4<R1:=Nat.lt_of_lt_of_le (akh).lt ku
 have amW:=Ta.cb asP (by simp;omega)
 have acM:=Ta.cb asQ (by simp;omega)
 have amX:=Ta.cb asR (by simp;omega)
 have amY:=Ta.cb akh (by simp;omega)
 have asT:=(azi).xt Ta (by simp;have:=hB1.size;omega)
 have ahP:=Zn.kp amM Ta.kp
 have ahQ:=Zn.kp amN Ta.kp
 have V5:=Zn.kp amO Ta.kp
 have V6:=Zn.kp amP Ta.kp
 have V7:=Zn.kp amQ Ta.kp
 have ahR:=Zn.kp amR Ta.kp
 have V8:=Zn.kp amS Ta.kp
 have ahS:=Zn.kp amT Ta.kp
 have ahT:=Zn.kp amU Ta.kp
 have ahU:=Zn.kp amV Ta.kp
 repeat refine Pl.az ?_
 refine Pl.ay (by kernel_rfl) ?_
 refine Pl.ah trivial rfl rfl rfl rfl rfl ?_
 refine Pl.ak ?_
 repeat refine Pl.az ?_
 repeat refine Pl.az ?_
 refine Pl.cK ?_
 refine Pl.uU 2 ?_
 refine Pl.xX ?_
 repeat refine Pl.az ?_
 refine Pl.ay (by kernel_rfl) ?_
 refine Pl.aI (v:=.bool true) trivial rfl rfl rfl rfl rfl rfl (fun X=>jw (by decide) X) ?_
 refine Pl.ak ?_
 repeat refine Pl.az ?_
 refine Pl.dh rfl ?_
 repeat refine Pl.az ?_
 refine Pl.bN ?_
 repeat refine Pl.az ?_
 refine Pl.cK ?_
 repeat refine Pl.az ?_
 refine Pl.ay (by kernel_rfl) ?_
 refine Pl.ah trivial rfl rfl rfl rfl rfl ?_
 refine Pl.aj trivial rfl rfl rfl rfl rfl ?_
 refine Pl.ak ?_
 repeat refine Pl.az ?_
 refine Pl.iN (S:=fun X=>Cb X R1 78 [.bool ps2,.slice VG VH cs2,.bool VJ,.slice VK VL O0]∧Cb X N2 80 [.bool VM,.slice VN VO VP,.bool VQ,.slice VR VS VT,.bool VU,.slice VV VW VX,.bool VY,.slice VZ V3 V4]) [(true,0,0),(true,1,1),(true,2,3),(true,3,7),(true,4,15),(true,5,31),(true,6,63),(true,7,127),(true,8,255),(true,9,511),(true,10,1023),(true,12,2047),(false,11,6143),(true,13,8191),(false,14,16383)] fo (by repeat first | exact Pl.aD | refine Pl.gW ?_ | refine Pl.jc ?_ | refine Pl.mW ?_) (by kernel_rfl) ⟨Cb.ext asS (Ext.drew (Ext.refl _)),Cb.ext acM (Ext.drew (Ext.refl _))⟩ ?_
 have acN:=Ext.drew (Ext.refl u10)
 generalize u10.drew=u11 at *
 intro fP
 refine Pl.ah fP rfl rfl rfl rfl rfl ?_
 refine Pl.ah fP rfl rfl rfl rfl rfl ?_
 refine Pl.aR fP rfl rfl rfl rfl rfl (fun X hX=>Cb.load hX.1 _ _ rfl rfl (by kernel_rfl)) ?_
 refine Pl.ah fP rfl rfl rfl rfl rfl ?_
 refine aP fP rfl rfl rfl rfl rfl rfl (vY _) ?_
 refine aP fP rfl rfl rfl rfl rfl rfl (fA _) ?_
 refine Pl.aR fP rfl rfl rfl rfl rfl (fun X hX=>Cb.bJ hX.2 0 [.bool VM,.slice VN VO VP] rfl _ _ rfl rfl (by kernel_rfl)) ?_
 refine Pl.ah fP rfl rfl rfl rfl rfl ?_
 refine aP fP rfl rfl rfl rfl rfl rfl (vZ _) ?_
 refine aP fP rfl rfl rfl rfl rfl rfl (M7 _) ?_
 refine Pl.aR fP rfl rfl rfl rfl rfl (fun X hX=>Cb.bJ hX.2 4 [.bool VU,.slice VV VW VX] rfl _ _ rfl rfl (by kernel_rfl)) ?_
 refine aP fP rfl rfl rfl rfl rfl rfl (vZ _) ?_
 refine Pl.aA rfl rfl rfl rfl rfl (fun u X=>Pl.enters Tryz.func110 (by kernel_rfl) rfl u X) ?_
 refine Calls.mono (pU _ _ _ _ _ zs2 _ _ _ _ zs3 _ _ _ _ zm0 _ _ _ _ zm2 (Zn.below V5 acN) (bs2.le (by decide)) (Zn.below V6 acN) (bs3.le (by decide)) (Zn.below V7 acN) (bm0.le (by decide)) (Zn.below V8 acN) (bm2.le (by decide))) ?_
 rintro e u12 ⟨Fg,Fh,Fj,Fp,rfl,ahV,acO⟩
 have amZ:Cb u12 R1 78 [.bool ps2,.slice VG VH cs2,.bool VJ,.slice VK VL O0]∧Cb u12 N2 80 [.bool VM,.slice VN VO VP,.bool VQ,.slice VR VS VT,.bool VU,.slice VV VW VX,.bool VY,.slice VZ V3 V4]:=⟨Cb.ext fP.1 acO,Cb.ext fP.2 acO⟩
 have asU:=acN.below acO
 have acP:=Cb.ext amY asU
 refine ⟨_,rfl,⟨Cb.ext fP.1 acO,Cb.ext fP.2 acO⟩,?_⟩
 refine aP amZ rfl rfl rfl rfl rfl rfl (M7 _) ?_
 have Kb:Xt [N4] u12 (u12.setCells N4 4 [.bool Fg,.slice Fh Fj Fp]):=Xt.uE _ _ acP (aF (aF (aF (aF aN)))) (aF aN)
 refine Pl.bT rfl rfl rfl rfl rfl rfl (Cb.A9 acP 4 [.bool Fg,.slice Fh Fj Fp] (by simp) _ (by kernel_rfl) (by simp [Value.oneCell'])) ⟨Kb.cb amZ.1 (by simp;omega),Kb.cb amZ.2 (by simp;omega)⟩ ?_
 have asV:Cb (u12.setCells N4 4 [.bool Fg,.slice Fh Fj Fp]) N4 80 [.bool Cg,.slice Ch Ci Cj,.bool DL,.slice DN DR DT,.bool Fg,.slice Fh Fj Fp,.bool false,.slice none 0 0]:=Cb.uE [.bool Fg,.slice Fh Fj Fp] 4 acP
 generalize u12.setCells N4 4 [.bool Fg,.slice Fh Fj Fp]=u13 at *
 refine Pl.ak ?_
 have Bc:Xt [N4] u10 u13:=(Xt.ext asU).trans Kb
 have am0:=Bc.cb amW (by simp;omega)
 have acQ:=Bc.cb acM (by simp;omega)
 have am1:=Bc.cb amX (by simp;omega)
 have acR:=Bc.cb asS (by simp;omega)
 have asW:=(asT).xt Bc (by simp;have:=hB1.size;omega)
 have ahW:=Zn.kp ahP Bc.kp
 have ahX:=Zn.kp ahQ Bc.kp
 have V9:=Zn.kp V5 Bc.kp
 have Wd:=Zn.kp V6 Bc.kp
 have ahY:=Zn.kp V7 Bc.kp
 have We:=Zn.kp ahR Bc.kp
 have ahZ:=Zn.kp V8 Bc.kp
 have Wi:=Zn.kp ahS Bc.kp
 have ah0:=Zn.kp ahT Bc.kp
 have ah1:=Zn.kp ahU Bc.kp
 have ah2:=Zn.kp ahV Kb.kp
 refine Pl.bZ ?_
 repeat refine Pl.az ?_
 refine Pl.ay (by kernel_rfl) ?_
 refine Pl.aI (v:=.int .i64 1) trivial rfl rfl rfl rfl rfl rfl (fun X=>mM (by decide) (by decide) (by decide) X) ?_
 refine Pl.ah trivial rfl rfl rfl rfl rfl ?_
 refine Pl.ak ?_
 refine Pl.xY ?_
 refine Pl.xX ?_
 repeat refine Pl.az ?_
 refine Pl.ay (by kernel_rfl) ?_
 refine Pl.aI (v:=.bool true) trivial rfl rfl rfl rfl rfl rfl (fun X=>jw (by decide) X) ?_
 refine Pl.ak ?_
 repeat refine Pl.az ?_
 refine Pl.dh rfl ?_
 repeat refine Pl.az ?_
 refine Pl.bN ?_
 repeat refine Pl.az ?_
 refine Pl.cK ?_
 repeat refine Pl.az ?_
 refine Pl.ay (by kernel_rfl) ?_
 refine Pl.ah trivial rfl rfl rfl rfl rfl ?_
 refine Pl.aj trivial rfl rfl rfl rfl rfl ?_
 refine Pl.ak ?_
 repeat refine Pl.az ?_
 refine Pl.iN (S:=fun X=>Cb X R1 78 [.bool ps2,.slice VG VH cs2,.bool VJ,.slice VK VL O0]∧Cb X N2 80 [.bool VM,.slice VN VO VP,.bool VQ,.slice VR VS VT,.bool VU,.slice VV VW VX,.bool VY,.slice VZ V3 V4]) [(true,0,0),(true,1,1),(true,2,3),(true,3,7),(true,4,15),(true,5,31),(true,6,63),(true,7,127),(true,8,255),(true,9,511),(true,10,1023),(true,12,2047),(false,11,6143),(true,13,8191),(false,14,16383)] fo (by repeat first | exact Pl.aD | refine Pl.gW ?_ | refine Pl.jc ?_ | refine Pl.mW ?_) (by kernel_rfl) ⟨Cb.ext acR (Ext.drew (Ext.refl _)),Cb.ext acQ (Ext.drew (Ext.refl _))⟩ ?_
 have acS:=Ext.drew (Ext.refl u13)
 generalize u13.drew=u14 at *
 intro jN
 refine Pl.ah jN rfl rfl rfl rfl rfl ?_
 refine Pl.ah jN rfl rfl rfl rfl rfl ?_
 refine Pl.aR jN rfl rfl rfl rfl rfl (fun X hX=>Cb.load hX.1 _ _ rfl rfl (by kernel_rfl)) ?_
 refine Pl.ah jN rfl rfl rfl rfl rfl ?_
 refine aP jN rfl rfl rfl rfl rfl rfl (vY _) ?_
 refine aP jN rfl rfl rfl rfl rfl rfl (eu _) ?_
 refine Pl.aR jN rfl rfl rfl rfl rfl (fun X hX=>Cb.bJ hX.2 2 [.bool VQ,.slice VR VS VT] rfl _ _ rfl rfl (by kernel_rfl)) ?_
 refine Pl.ah jN rfl rfl rfl rfl rfl ?_
 refine aP jN rfl rfl rfl rfl rfl rfl (vZ _) ?_
 refine aP jN rfl rfl rfl rfl rfl rfl (M8 _) ?_
 refine Pl.aR jN rfl rfl rfl rfl rfl (fun X hX=>Cb.bJ hX.2 6 [.bool VY,.slice VZ V3 V4] rfl _ _ rfl rfl (by kernel_rfl)) ?_
 refine aP jN rfl rfl rfl rfl rfl rfl (vZ _) ?_
 refine Pl.aA rfl rfl rfl rfl rfl (fun u X=>Pl.enters Tryz.func110 (by kernel_rfl) rfl u X) ?_
 refine Calls.mono (pU _ _ _ _ _ zs2 _ _ _ _ zs3 _ _ _ _ zm1 _ _ _ _ zm3 (Zn.below V9 acS) (bs2.le (by decide)) (Zn.below Wd acS) (bs3.le (by decide)) (Zn.below We acS) (bm1.le (by decide)) (Zn.below Wi acS) (bm3.le (by decide))) ?_
 rintro e u15 ⟨Hu,Hw,Hy,Hz,rfl,PG,acT⟩
 have am2:Cb u15 R1 78 [.bool ps2,.slice VG VH cs2,.bool VJ,.slice VK VL O0]∧Cb u15 N2 80 [.bool VM,.slice VN VO VP,.bool VQ,.slice VR VS VT,.bool VU,.slice VV VW VX,.bool VY,.slice VZ V3 V4]:=⟨Cb.ext jN.1 acT,Cb.ext jN.2 acT⟩
 have asX:=acS.below acT
 have acU:=Cb.ext asV asX
 refine ⟨_,rfl,⟨Cb.ext jN.1 acT,Cb.ext jN.2 acT⟩,?_⟩
 refine aP am2 rfl rfl rfl rfl rfl rfl (M8 _) ?_
 have x11:Xt [N4] u15 (u15.setCells N4 6 [.bool Hu,.slice Hw Hy Hz]):=Xt.uE _ _ acU (aF (aF (aF (aF aN)))) (aF aN)
 refine Pl.bT rfl rfl rfl rfl rfl rfl (Cb.A9 acU 6 [.bool Hu,.slice Hw Hy Hz] (by simp) _ (by kernel_rfl) (by simp [Value.oneCell'])) ⟨x11.cb am2.1 (by simp;omega),x11.cb am2.2 (by simp;omega)⟩ ?_
 have asY:Cb (u15.setCells N4 6 [.bool Hu,.slice Hw Hy Hz]) N4 80 [.bool Cg,.slice Ch Ci Cj,.bool DL,.slice DN DR DT,.bool Fg,.slice Fh Fj Fp,.bool Hu,.slice Hw Hy Hz]:=Cb.uE [.bool Hu,.slice Hw Hy Hz] 6 acU
 generalize u15.setCells N4 6 [.bool Hu,.slice Hw Hy Hz]=u16 at *
 refine Pl.ak ?_
 have zA:Xt [N4] u13 u16:=(Xt.ext asX).trans x11
 have azk:=zA.cb am0 (by simp;omega)
 have azl:=zA.cb acQ (by simp;omega)
 have Tc:=zA.cb am1 (by simp;omega)
 have azm:=zA.cb acR (by simp;omega)
 have asZ:=(asW).xt zA (by simp;have:=hB1.size;omega)
 have axa:=Zn.kp ahW zA.kp
 have axb:=Zn.kp ahX zA.kp
 have axc:=Zn.kp V9 zA.kp
 have axd:=Zn.kp Wd zA.kp
 have axe:=Zn.kp ahY zA.kp
 have axf:=Zn.kp We zA.kp
 have axg:=Zn.kp ahZ zA.kp
 have axh:=Zn.kp Wi zA.kp
 have ah3:=Zn.kp ah0 zA.kp
 have ah4:=Zn.kp ah1 zA.kp
 have ah5:=Zn.kp ah2 zA.kp
 have ah6:=Zn.kp PG x11.kp
 refine Pl.bZ ?_
 repeat refine Pl.az ?_
 refine Pl.ay (by kernel_rfl) ?_
 refine Pl.aI (v:=.int .i64 2) trivial rfl rfl rfl rfl rfl rfl (fun X=>mM (by decide) (by decide) (by decide) X) ?_
 refine Pl.ah trivial rfl rfl rfl rfl rfl ?_
 refine Pl.ak ?_
 refine Pl.xY ?_
 refine Pl.uV ?_
 repeat refine Pl.az ?_
 refine Pl.ay (by kernel_rfl) ?_
 refine Pl.aI (v:=.bool false) trivial rfl rfl rfl rfl rfl rfl (fun X=>jw (by decide) X) ?_
 refine Pl.ak ?_
 repeat refine Pl.az ?_
 refine Pl.bD rfl ?_
 repeat refine Pl.az ?_
 refine Pl.jE ?_
 refine Pl.bZ ?_
 repeat refine Pl.az ?_
 refine Pl.ay (by kernel_rfl) ?_
 refine Pl.aI (v:=.int .i64 2) trivial rfl rfl rfl rfl rfl rfl (fun X=>mM (by decide) (by decide) (by decide) X) ?_
 refine Pl.ah trivial rfl rfl rfl rfl rfl ?_
 refine Pl.ak ?_
 refine Pl.xY ?_
 refine Pl.uV ?_
 repeat refine Pl.az ?_
 refine Pl.ay (by kernel_rfl) ?_
 refine Pl.aI (v:=.bool false) trivial rfl rfl rfl rfl rfl rfl (fun X=>jw (by decide) X) ?_
 refine Pl.ak ?_
 repeat refine Pl.az ?_
 refine Pl.bD rfl ?_
 repeat refine Pl.az ?_
 refine Pl.jE ?_
 repeat refine Pl.az ?_
 refine Pl.ay (by kernel_rfl) ?_
 refine Pl.aH trivial rfl rfl rfl rfl rfl (Cb.load asY _ _ rfl rfl (by kernel_rfl)) ?_
 have xf:Xt [N3] u16 (u16.setRow N3 ([.bool Cg,.slice Ch Ci Cj,.bool DL,.slice DN DR DT,.bool Fg,.slice Fh Fj Fp,.bool Hu,.slice Hw Hy Hz]:List Value).toArray):=Xt.put Tc (aF (aF (aF (aF aN)))) (by simp) _
 refine fT (new:=[.bool Cg,.slice Ch Ci Cj,.bool DL,.slice DN DR DT,.bool Fg,.slice Fh Fj Fp,.bool Hu,.slice Hw Hy Hz]) Tc rfl rfl rfl rfl rfl rfl (by kernel_rfl) rfl (by simp [Value.oneCell']) trivial ?_
 have kf:=Cb.put Tc [.bool Cg,.slice Ch Ci Cj,.bool DL,.slice DN DR DT,.bool Fg,.slice Fh Fj Fp,.bool Hu,.slice Hw Hy Hz]
 generalize u16.setRow N3 ([.bool Cg,.slice Ch Ci Cj,.bool DL,.slice DN DR DT,.bool Fg,.slice Fh Fj Fp,.bool Hu,.slice Hw Hy Hz]:List Value).toArray=wf at *
 refine Pl.ak ?_
 have bz:∀ (a b c d:Int),Sz a 1→Sz b 1→Sz c 1→Sz d 1→Sz (a*b+c*d) 3:=fun a b c d ha hb hc hd=>Sz.add (ha.mul (M:=2) hb (by decide)) (hc.mul (M:=2) hd (by decide)) (by decide) (by decide)
 exact l7 rfl rfl kf rfl rfl (by kernel_rfl) ⟨[.bool Cg,.slice Ch Ci Cj,.bool DL,.slice DN DR DT,.bool Fg,.slice Fh Fj Fp,.bool Hu,.slice Hw Hy Hz],rfl,⟨⟨_,Zn.kp ah3 xf.kp,bz _ _ _ _ bs0 bm0 bs1 bm2⟩,⟨_,Zn.kp ah4 xf.kp,bz _ _ _ _ bs0 bm1 bs1 bm3⟩,⟨_,Zn.kp ah5 xf.kp,bz _ _ _ _ bs2 bm0 bs3 bm2⟩,⟨_,Zn.kp ah6 xf.kp,bz _ _ _ _ bs2 bm1 bs3 bm3⟩,trivial⟩,rfl,(asZ).xt xf (by simp;have:=hB1.size;omega)⟩
end Go.Proofs.YtnilonnkcbkdmaaGreatDoor
