/- Euclid's quotients. -/
import Derived.Test.YtnilonnkcbkdmaaGreatDoorBbb

namespace Go.Proofs.YtnilonnkcbkdmaaGreatDoor
open Go.RowKit
set_option linter.all false
set_option maxRecDepth 100000
set_option maxHeartbeats 8000000
def Qs (w:World):List Value→List Nat→Prop
 | [],[]=>True
 | v::vs,q::qs=>Un w v q∧Qs w vs qs
 | _,_=>False
theorem Qs.kp {w w':World} (k:Kp w w'):∀ {xs:List Value} {qs:List Nat},Qs w xs qs→Qs w' xs qs
 | [],[],_=>trivial
 | _::_,_::_,h=>⟨Un.kp h.1 k,Qs.kp k h.2⟩
 | [],_::_,h=>h.elim
 | _::_,[],h=>h.elim
theorem Qs.snoc {w:World} {v:Value} {q:Nat} (hv:Un w v q):∀ {xs:List Value} {qs:List Nat},Qs w xs qs→Qs w (xs++[v]) (qs++[q])
 | [],[],_=>⟨hv,trivial⟩
 | _::_,_::_,h=>⟨h.1,Qs.snoc hv h.2⟩
 | [],_::_,h=>h.elim
 | _::_,[],h=>h.elim
theorem Gr.xt {ok:Value→Prop} {X Y:World} {base size n:Nat} {e:TypeId} {v:Value} {xs:List Value} {Cs:List Nat} (h:Pl.Gr ok X base e size v n xs) (hX:Xt Cs X Y) (hC:∀ g cur,base≤g→X.heap[g]?=some (.cells cur e (0,0))→g∉Cs):Pl.Gr ok Y base e size v n xs:=by
 refine ⟨h.1,?_⟩
 rcases h.2 with hn | ⟨g,cap,cur,rfl,hb,hgg,rest⟩
 · exact .inl hn
 · exact .inr ⟨g,cap,cur,rfl,hb,(hX.block g (Array.getElem?_eq_some_iff.1 hgg).1 (hC g cur hb hgg)).trans hgg,rest⟩
theorem tJ (w:World) (va vb:Value) (a b:Nat) (ha:Un w va a) (hb:Un w vb b) (hla:Sn a 90) (hlb:Sn b 90) :
  Calls Tryz.prog 17 #[va,vb] w fun e w'=>∃ v base xs,e = .returned v∧Pl.Gr dQ w' base 22 1 v (quo a b).length xs∧Qs w' xs (quo a b)∧Ext w w':=by
 obtain ⟨Aa,ca,rfl,-⟩:=Un.sh ha
 obtain ⟨Ab,cb,rfl,-⟩:=Un.sh hb
 refine Pl.Dn (n:=14) (vs:=[.slice Aa (limbs a).length ca,.slice Ab (limbs b).length cb]) Tryz.func17 rfl (by kernel_rfl) (by simp) ?_
 repeat refine Pl.az ?_
 refine Pl.ay (by kernel_rfl) ?_
 refine Pl.aj trivial rfl rfl rfl rfl rfl ?_
 refine Pl.ak ?_
 repeat refine Pl.az ?_
 refine Pl.ay (by kernel_rfl) ?_
 refine eH rfl rfl rfl rfl (z:=.slice none 0 0) (by kernel_rfl) (fun _ _=>trivial) ?_
 intro N w3 pE hN k3
 replace k3:Cb w3 N 30 [.slice none 0 0]:=k3
 refine Pl.ak ?_
 repeat refine Pl.az ?_
 refine Pl.ay (by kernel_rfl) ?_
 refine Pl.oJ trivial rfl rfl rfl rfl rfl rfl ?_
 refine Pl.aj trivial rfl rfl rfl rfl rfl ?_
 refine Pl.ak ?_
 repeat refine Pl.az ?_
 refine Pl.ay (by kernel_rfl) ?_
 refine Pl.ah trivial rfl rfl rfl rfl rfl ?_
 refine Pl.ah trivial rfl rfl rfl rfl rfl ?_
 refine Pl.ah trivial rfl rfl rfl rfl rfl ?_
 refine Pl.aA rfl rfl rfl rfl rfl (fun u X=>Pl.enters Tryz.func49 (by kernel_rfl) rfl u X) ?_
 refine Calls.mono (vU _ _ _ _ _ rfl rfl rfl rfl) ?_
 rintro e w4 ⟨Na,Nb,Ne,Ng,rfl,kna,knb,kne,kng,o1,o2,o3,o4,hB4⟩
 refine ⟨_,rfl,trivial,?_⟩
 refine Pl.ak ?_
 repeat refine Pl.az ?_
 refine Pl.cK ?_
 repeat refine Pl.az ?_
 refine Pl.ML (gf := 79) (lb:=[.pointer (some ⟨Nb,0,none⟩),.pointer (some ⟨Na,0,none⟩),.pointer (some ⟨Ne,0,none⟩),.pointer (some ⟨Ng,0,none⟩)]) rfl (fun u X=>Pl.enters Tryz.func79 (by kernel_rfl) rfl u X) ?_
 intro fn tmps rec hrec hAg
 obtain ⟨D,hD⟩:∃ D,w4.heap.size=D:=⟨_,rfl⟩
 rw [hD]
 have wZ:=pE.below hB4
 have Vw:w.heap.size≤D:=by rw [← hD];exact wZ.size
 have qo:Ext w4 ((w4.alloc (.deferred (some []))).alloc (.loop rec)):=((Ext.refl w4).alloc _).alloc _
 have hL5:Lq w D rec ((w4.alloc (.deferred (some []))).alloc (.loop rec)):=⟨by rw [← hD];have:=World.alloc_heap_new (w4.alloc (.deferred (some []))) (.loop rec);rwa [World.size_alloc] at this,by rw [← hD];exact (Below.heap_alloc _ _ _ (by simp)).trans (World.alloc_heap_new w4 _),wZ.below qo⟩
 have hs5:((w4.alloc (.deferred (some []))).alloc (.loop rec)).heap.size=D+2:=by rw [World.size_alloc,World.size_alloc,hD]
 generalize (w4.alloc (.deferred (some []))).alloc (.loop rec)=w5 at *
 have hlt3:=k3.lt
 have hng:=kng.lt
 rw [hD] at hng
 have h34:=hB4.size
 rw [hD] at h34
 have hnd:dQ=dQ:=rfl
 refine Calls.mono (vT w5 a b _ _ Na Nb Ne Ng 48 [.pointer (some ⟨N,0,none⟩)] 50 [] (D+1) [N,D+1] (fun ql pl pr X=>(∃ v xs,Cb X N 30 [v]∧Pl.Gr dQ X (D+2) 22 1 v ql.length xs∧Qs X xs ql)∧Lq w D rec X) (fun _=>False) (Cb.ext kna qo) (Cb.ext knb qo) (Cb.ext kne qo) (Cb.ext kng qo) ⟨o2,o3,o4⟩ ?J7 (Un.below ha hL5.ext) (Un.below hb hL5.ext) hla hlb ?h0 ?hI (fun u X=>Pl.enters Tryz.func48 (by kernel_rfl) rfl u X) (fun u X=>Pl.enters Tryz.func50 (by kernel_rfl) rfl u X) ?Ga ?AO ?Gb) ?_
 case J7=>intro k hk;simp at hk;rcases hk with rfl | rfl<;>omega
 case h0=>exact ⟨⟨_,[],Cb.ext (Cb.ext k3 hB4) qo,Pl.Gr.nil,trivial⟩,hL5⟩
 case hI =>
  rintro ql pl pr X Y Cs ⟨⟨v,xs,kN,hG,hQ⟩,hL⟩ hX hC
  have nb:∀ N,N<D+2→N≠Na→N≠Nb→N∉Cs:=fun N hN h1 h2 hc=>by rcases hC N hc with h | h | h<;>omega
  refine ⟨⟨v,xs,hX.cb kN (nb _ (by omega) (by omega) (by omega)),Gr.xt hG hX fun g cur hg hgg hc=>?_,Qs.kp hX.kp hQ⟩,hL.xt hX fun k hk=>by rcases hC k hk with h | h | h<;>omega⟩
  rcases hC g hc with h | h | h
  · exact h.2 _ _ hgg
  · omega
  · omega
 case Ga =>
  rintro ql pl pr q v X ⟨⟨v0,xs,kN,hG,hQ⟩,hL⟩ ⟨rest,hpre⟩ hq hv
  obtain ⟨Av,cv,rfl,-⟩:=Un.sh hv
  have hsh:=lH (a:=a) (hlb.le (show 90≤1000 by decide))
  have hln:ql.length≤64000:=by rw [hpre] at hsh;simp at hsh;omega
  have hDX:=(Array.getElem?_eq_some_iff.1 hL.loop).1
  refine (MO X Av _ cv N (D+2) ql.length _ v0 xs kN (by decide) hG (by omega) (by omega)).mono fun e X' h=>?_
  obtain ⟨rfl,v1,kN1,hG1,hkp,⟨h1,h2,h3⟩,hbl⟩:=h
  have own:∀ k,v0.ownBlock=some k→D+2≤k∧¬ NR X k:=fun k hk=>by
   rcases hG.2 with ⟨rfl,_⟩ | ⟨g,cap,cur,rfl,hb,hgg,_⟩
   · simp [Value.ownBlock] at hk
   · simp [Value.ownBlock] at hk;subst hk;exact ⟨hb,fun hn=>hn _ _ hgg⟩
  have keep:∀ k,k<D+2→k≠N→X'.heap[k]?=X.heap[k]?:=fun k hk hn=>hbl k (by omega) hn fun e=>by have:=(own k e.symm).1;omega
  refine ⟨rfl,⟨⟨v1,_,kN1,by rw [List.length_append];exact hG1,Qs.snoc (Un.kp hv hkp) (Qs.kp hkp hQ)⟩,⟨(keep _ (by omega) (by omega)).trans hL.loop,(keep _ (by omega) (by omega)).trans hL.dfr,?_⟩⟩,⟨h1,h2,h3,fun k hk hn hr=>hbl k hk (fun e=>hn (by simp [e])) fun e=>?_,hkp⟩⟩
  · exact ⟨h1.trans hL.ext.os,h2.trans hL.ext.tape,h3.trans hL.ext.output,Nat.le_trans hL.ext.size hkp.1,fun k hk=>(keep k (by omega) (by omega)).trans (hL.ext.block k hk)⟩
  · have:=own k e.symm
    rcases hr with hr | hr
    · omega
    · exact this.2 hr
 case AO =>
  intro pl l pr f fs n X hJ hpre ht hn
  refine (MP X _ _).mono fun e X' h=>?_
  obtain ⟨rfl,rfl⟩:=h
  exact ⟨rfl,hJ,Xc.refl _⟩
 case Gb =>
  rintro ql pr P Q vp vq X ⟨⟨v,xs,kN,hG,hQ⟩,hL⟩ htold abd hsp hsq hp hq
  refine YW.of hrec hL.loop ?_
  refine Pl.Gg (Pl.Ag.round hAg (by decide) _) ?_
  repeat refine Pl.jW ?_
  refine Pl.FE ?_
  obtain ⟨hL3,x3⟩:=hL.put Vw { rec with state:=.busy }
  refine Pl.AR fun a2 ha2=>⟨_,_,ha2,run_beginRound hL.loop (by rw [hrec]),?_⟩
  repeat refine Pl.jW ?_
  refine Pl.Gi ?_
  repeat refine Pl.jW ?_
  refine Pl.FE ?_
  refine Pl.tF ?_
  refine Pl.AR fun a3 ha3=>?_
  obtain ⟨v5,X5,hr5,rfl,hL5,x5⟩:=Lq.fin (P:=Tryz.prog) hL3 Vw (by rw [hrec]) (by rw [hrec])
  have x35:=x3.trans x5
  refine ⟨_,_,hr5,.inl ⟨rfl,⟨⟨v,xs,x35.cb kN (by simp;omega),Gr.xt hG x35 (fun g cur hg _ hc=>by simp at hc;omega),Qs.kp x35.kp hQ⟩,hL5⟩,(Xc.xt x35).mono (by simp)⟩⟩
 rintro e w6 ⟨rfl,(⟨P,⟨⟨v,xs,kN,hG,hQ⟩,hL⟩,hPg⟩ | hf)⟩
 rotate_left
 · exact hf.elim
 refine ⟨_,rec,rfl,hL.loop,by rw [hrec];simp,?_⟩
 rw [hrec]
 dsimp only
 obtain ⟨hL7,x7⟩:=hL.put Vw { rec with state:=.exhausted }
 rw [hrec] at hL7 x7
 generalize w6.putObj (D+1) _=w7 at *
 have kN7:=x7.cb kN (by simp;omega)
 have hG7:=Gr.xt hG x7 (fun g cur hg _ hc=>by simp at hc;omega)
 refine Pl.bZ ?_
 repeat refine Pl.az ?_
 refine Pl.ay (by kernel_rfl) ?_
 refine Pl.aH trivial rfl rfl rfl rfl rfl (Cb.wP kN7) ?_
 refine Pl.aj trivial rfl rfl rfl rfl rfl ?_
 refine Pl.ak ?_
 have x9:=Xt.putObj hL7.dfr rfl (.deferred none)
 exact Pl.xM hL7.dfr (Pl.Pb rfl rfl) ⟨_,D+2,xs,rfl,Gr.xt hG7 x9 (fun g cur hg _ hc=>by simp at hc;omega),Qs.kp x9.kp (Qs.kp x7.kp hQ),hL7.ext.xt x9 (by simp;omega)⟩
end Go.Proofs.YtnilonnkcbkdmaaGreatDoor
