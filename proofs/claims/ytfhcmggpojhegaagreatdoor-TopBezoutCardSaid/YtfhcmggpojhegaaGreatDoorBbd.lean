/- A row of slices that grows; what is kept meanwhile. -/
import Derived.Test.YtfhcmggpojhegaaGreatDoorBbc
import Derived.Test.YtfhcmggpojhegaaGreatDoorBar
import Derived.Maps.AppendAt

namespace Go.Proofs.YtfhcmggpojhegaaGreatDoor
open Go.RowKit
set_option linter.unusedVariables false
set_option maxHeartbeats 400000
def Sl (u:Value):Prop:=∃ a l c,u = .slice a l c
theorem U.sl {w:World} {v:Value} {xs:List Nat} (h:U w v xs):Sl v:=by
 obtain ⟨A,c,rfl,_⟩:=h
 exact ⟨_,_,_,rfl⟩
theorem Sl.one {u:Value} (h:Sl u):u.oneCell'=true:=by obtain ⟨a,l,c,rfl⟩:=h;rfl
theorem Lm {w:World} {p:Addr} {v:Value} (h:w.cell? p=some v):p.block<w.heap.size:=by
 rcases Nat.lt_or_ge p.block w.heap.size with h1 | h1
 · exact h1
 · exfalso
   unfold World.cell? at h
   rw [Array.getElem?_eq_none h1] at h
   cases h
structure tT (B:Nat) (w w':World):Prop where
 below:Below B w w'
 cell:∀ p v,w.cell? p=some v→¬ Sl v→w'.cell? p=some v
theorem tT.refl (B:Nat) (w:World):tT B w w:=⟨Below.refl _ _,fun _ _ h _=>h⟩
theorem tT.trans {B:Nat} {a b c:World} (h:tT B a b) (k:tT B b c):tT B a c:=⟨h.below.trans k.below,fun p v h1 h2=>k.cell p v (h.cell p v h1 h2) h2⟩
theorem tT.JO {B:Nat} {a b:World} (hB:B≤a.heap.size) (h:Ext a b):tT B a b:=⟨Below.mono h hB,fun p v h1 _=>(h.cell (Lm h1)).trans h1⟩
theorem tT.ext {B:Nat} {a b c:World} (h:tT B a b) (hB:B≤a.heap.size) (k:Ext b c):tT B a c:=h.trans (tT.JO (Nat.le_trans hB h.below.size) k)
theorem tT.size {B:Nat} {a b:World} (h:tT B a b):a.heap.size≤b.heap.size:=h.below.size
theorem tT.mono {B C:Nat} {a b:World} (h:tT B a b) (hC:C≤B):tT C a b:=⟨Below.mono h.below hC,h.cell⟩
theorem U.JP {B:Nat} {w w':World} {v:Value} {xs:List Nat} (h:U w v xs) (k:tT B w w'):U w' v xs:=by
 obtain ⟨A,c,rfl,hc,hx,hr⟩:=h
 refine ⟨A,c,rfl,hc,hx,fun h0=>?_⟩
 obtain ⟨ad,hA,hb,hcell⟩:=hr h0
 exact ⟨ad,hA,Nat.lt_of_lt_of_le hb k.size,fun j hj=>k.cell _ _ (hcell j hj) (by rintro ⟨a,l,c,e⟩;cases e)⟩
theorem Un.JP {B:Nat} {w w':World} {v:Value} {n:Nat} (h:Un w v n) (k:tT B w w'):Un w' v n:=U.JP h k
theorem DY.JP {B:Nat} {w w':World} {S b n p:Nat} (h:DY w S b n p) (k:tT B w w'):DY w' S b n p:=by
 obtain ⟨h0,h1,h2,h3⟩:=h
 exact ⟨Nat.lt_of_lt_of_le h0 k.size,k.cell _ _ h1 (by rintro ⟨a,l,c,e⟩;cases e),k.cell _ _ h2 (by rintro ⟨a,l,c,e⟩;cases e),k.cell _ _ h3 (by rintro ⟨a,l,c,e⟩;cases e)⟩
structure JQ (B:Nat) (w:World) (g n cap:Nat) (es:List Value):Prop where
 lo:B≤g
 caps:n≤cap∧cap≤maxLen
 len:es.length=n
 row:∃ cur:Array Value,w.heap[g]?=some (.cells cur 22 (0,0))∧cur.size=cap∧cur.toList.take n=es∧∀ u∈cur.toList,Sl u
theorem JQ.lt {B:Nat} {w:World} {g n cap:Nat} {es:List Value} (h:JQ B w g n cap es):g<w.heap.size:=by
 obtain ⟨cur,h1,_⟩:=h.row
 exact (Array.getElem?_eq_some_iff.1 h1).1
theorem JQ.cell {B:Nat} {w:World} {g n cap:Nat} {es:List Value} (h:JQ B w g n cap es) {j:Nat} (hj:j<n):w.cell? ⟨g,j,none⟩=es[j]?:=by
 obtain ⟨cur,h1,h2,h3,h4⟩:=h.row
 rw [cell_of_row w g j _ _ _ h1,← h3,List.getElem?_take_of_lt hj,Array.getElem?_toList]
theorem JQ.of {B:Nat} {w w':World} {g n cap:Nat} {es:List Value} (h:JQ B w g n cap es) (e:w'.heap[g]?=w.heap[g]?):JQ B w' g n cap es:=by
 obtain ⟨cur,h1,h2⟩:=h.row
 exact ⟨h.lo,h.caps,h.len,cur,e.trans h1,h2⟩
theorem JQ.ext {B:Nat} {w w':World} {g n cap:Nat} {es:List Value} (h:JQ B w g n cap es) (k:Ext w w'):JQ B w' g n cap es:=h.of (k.block g h.lt)
theorem JQ.sl {B:Nat} {w:World} {g n cap:Nat} {es:List Value} (h:JQ B w g n cap es) {p:Addr} (hp:p.block=g) {v:Value} (hv:w.cell? p=some v):Sl v:=by
 obtain ⟨cur,h1,h2,h3,h4⟩:=h.row
 unfold World.cell? at hv
 rw [hp,h1] at hv
 simp only at hv
 split at hv
 · cases hv
 · exact h4 v (Array.mem_toList_iff.2 (Array.mem_of_getElem? hv))
theorem JQ.new (B:Nat) (w:World) (e:Value) (he:Sl e) (hB:B≤w.heap.size):JQ B (w.alloc (.cells #[e] 22)) w.heap.size 1 1 [e] :=
 ⟨hB,⟨Nat.le_refl _,by unfold maxLen;omega⟩,rfl,#[e],heap_alloc_new w _,rfl,rfl,fun u hu=>by simp at hu;subst hu;exact he⟩
theorem afK:(Tryz.prog.info? 22).map (fun i=>(i.zero,i.size,i.bytes))=some (some (.slice none 0 0),1,24):=by kernel_rfl
theorem NF:∃ i0:TypeInfo,Tryz.prog.info? 22 = some i0∧i0.zero=some (.slice none 0 0)∧i0.size=1∧i0.bytes=24:=by
 cases h:Tryz.prog.info? 22 with
 | none =>
  have:=afK
  rw [h] at this
  cases this
 | some i0 =>
  have:=afK
  rw [h] at this
  simp only [Option.map_some,Option.some.injEq,Prod.mk.injEq] at this
  exact ⟨i0,rfl,this.1,this.2.1,this.2.2⟩
theorem JQ.push {B:Nat} {w:World} {g n cap:Nat} {es:List Value} (h:JQ B w g n cap es) (e:Value) (he:Sl e) (a:Addr) (ha:w.cell? a=some e) (hn:n+1≤1000000) (hB:B≤w.heap.size) :
  ∃ g' cap' w',(Builtin.append_ #[181,181] 181 #[.slice (some ⟨g,0,none⟩) n cap,.slice (some a) 1 1]).run Tryz.prog w = .ok (.slice (some ⟨g',0,none⟩) (n+1) cap') w'∧JQ B w' g' (n+1) cap' (es++[e]) ∧
   w.grownBy w' (some g)∧(g'=g∨g'=w.heap.size)∧tT B w w':=by
 obtain ⟨i0,hi,hz,hs,hb⟩:=NF
 obtain ⟨cur,h1,h2,h3,h4⟩:=id h.row
 have hnews:∀ j u,[e][j]?=some u→w.cell? (a.add j)=some u:=by
  intro j u hj
  have h0:=(List.getElem?_eq_some_iff.1 hj).1
  have:j=0:=by simpa using h0
  subst this
  simp at hj
  subst hj
  rw [show a.add 0=a by simp [Addr.add]]
  exact ha
 by_cases hroom:n+1≤cap
 · have hr:=run_append_room (P:=Tryz.prog) w 181 181 22 i0 Tryz.underlying181 hi g n cap cur h1 a 1 1 [e] (by rw [hs];rfl) hnews (by intro u hu;simp at hu;subst hu;exact he.one) hroom (by rw [hs,h2];simpa using hroom)
   rw [hs,Nat.mul_one] at hr
   have hhe:(w.setRow g (cur.toList.take n++[e]++cur.toList.drop (n+[e].length)).toArray).heap[g]?=some (.cells (cur.toList.take n++[e]++cur.toList.drop (n+[e].length)).toArray 22 (0,0)):=setRow_heap w g cur _ 22 _ h1
   have hot:∀ k,k≠g→(w.setRow g (cur.toList.take n++[e]++cur.toList.drop (n+[e].length)).toArray).heap[k]?=w.heap[k]?:=fun k hk=>setRow_other w g k _ hk
   have hsz:(w.setRow g (cur.toList.take n++[e]++cur.toList.drop (n+[e].length)).toArray).heap.size=w.heap.size:=by simp
   have hgb:w.grownBy (w.setRow g (cur.toList.take n++[e]++cur.toList.drop (n+[e].length)).toArray) (some g):=⟨rfl,rfl,rfl,by rw [hsz];exact Nat.le_refl _,fun k _ hk=>hot k (fun e=>hk (by rw [e]))⟩
   refine ⟨g,cap,_,hr,⟨h.lo,⟨hroom,h.caps.2⟩,by rw [List.length_append,h.len];rfl,_,hhe,?_,?_,?_⟩,hgb,.inl rfl,⟨⟨rfl,rfl,rfl,by rw [hsz];exact Nat.le_refl _,fun k hk=>hot k (by have:=h.lo;omega)⟩,?_⟩⟩
   · simp only [List.size_toArray,List.length_append,List.length_take,List.length_drop,Array.length_toList,List.length_singleton]
     omega
   · have hl:(cur.toList.take n++[e]).length=n+1:=by rw [List.length_append,h3,h.len];rfl
     show List.take (n+1) (cur.toList.take n++[e]++cur.toList.drop (n+[e].length))=_
     rw [List.take_left' hl,h3]
   · intro u hu
     simp only [List.mem_append,List.mem_singleton] at hu
     rcases hu with (hu | hu) | hu
     · exact h4 u (List.mem_of_mem_take hu)
     · subst hu;exact he
     · exact h4 u (List.mem_of_mem_drop hu)
   · intro p v hv hns
     by_cases hp:p.block=g
     · exact absurd (h.sl hp hv) hns
     · rw [← hv]
       unfold World.cell?
       rw [hot _ hp]
 · have holds:∀ j v,es[j]?=some v→w.cell? ((⟨g,0,none⟩:Addr).add j)=some v:=by
    intro j v hj
    have h0:=(List.getElem?_eq_some_iff.1 hj).1
    rw [h.len] at h0
    rw [lQ,h.cell h0,hj]
   have hr:=run_append_grow (P:=Tryz.prog) w 181 181 22 i0 (.slice none 0 0) Tryz.underlying181 hi hz ⟨g,0,none⟩ n cap es (by rw [h.len,hs,Nat.mul_one]) holds a 1 1 [e] (by rw [hs];rfl) hnews (by omega) (by omega) (growslice_fits (by omega) (by rw [hb];omega))
   have hge:=grownCap_ge w (n+1) cap 22
   have hcm:grownCap w (n+1) cap 22 ≤ maxLen:=grownCap_le_maxLen w (n+1) cap 22 (by unfold maxLen;omega)
   generalize grownCap w (n+1) cap 22 = G at *
   have hE:Ext w (w.drew.alloc (.cells (es.toArray++[e].toArray++Builtin.zeroCells (Value.slice none 0 0).cells (G-(n+1))) 22)):=((Ext.refl w).drew).alloc _
   refine ⟨w.heap.size,G,_,hr,⟨hB,⟨hge,hcm⟩,by rw [List.length_append,h.len];rfl,_,heap_alloc_new w.drew _,?_,?_,?_⟩,⟨rfl,rfl,rfl,hE.size,fun k hk _=>hE.block k hk⟩,.inr rfl,tT.JO hB hE⟩
   · simp only [Array.size_append,List.size_toArray,size_zeroCells,List.length_singleton,h.len]
     show n+1+(G-(n+1))*1=G
     omega
   · have hl:(es++[e]).length=n+1:=by rw [List.length_append,h.len];rfl
     simp only [Array.toList_append]
     exact List.take_left' hl
   · intro u hu
     simp only [Array.toList_append,List.mem_append,List.mem_singleton] at hu
     rcases hu with (hu | hu) | hu
     · rw [← h3] at hu;exact h4 u (List.mem_of_mem_take hu)
     · subst hu;exact he
     · have:u=Value.slice none 0 0:=by
        simp [Builtin.zeroCells,Value.cells] at hu
        obtain ⟨j,_,h2⟩:=hu
        rw [Nat.mod_one] at h2
        exact h2.symm
       subst this
       exact ⟨_,_,_,rfl⟩
end Go.Proofs.YtfhcmggpojhegaaGreatDoor
/- The powers of a base that are kept. -/
namespace Go.Proofs.YtfhcmggpojhegaaGreatDoor
open Go.RowKit
set_option linter.unusedVariables false
set_option maxHeartbeats 400000
attribute [local go_sem ↓] fU
attribute [local go_sem] bY
structure Lp (B b n:Nat) (w:World) (Bk K:Nat):Prop where
 lo:B≤Bk
 fr:w.frozen? ⟨Bk,0,none⟩=false
 k1:1≤K∧K≤1000
 row:∃ g cap es,w.cell? ⟨Bk,0,none⟩=some (.slice (some ⟨g,0,none⟩) K cap)∧JQ B w g K cap es∧g≠Bk∧∀ i,i<K→∃ e,es[i]?=some e∧Un w e (kp b n i)
theorem Lp.lt {B b n:Nat} {w:World} {Bk K:Nat} (h:Lp B b n w Bk K):Bk<w.heap.size:=by
 obtain ⟨g,cap,es,h1,_⟩:=h.row
 exact Lm h1
theorem Lp.ext {B b n:Nat} {w w':World} {Bk K:Nat} (h:Lp B b n w Bk K) (k:Ext w w'):Lp B b n w' Bk K:=by
 have hlt:=h.lt
 obtain ⟨g,cap,es,h1,h2,h3,h4⟩:=h.row
 have hb:w'.heap[Bk]?=w.heap[Bk]?:=k.block Bk hlt
 refine ⟨h.lo,(World.frozen?_of_block (a:=⟨Bk,0,none⟩) hb).trans h.fr,h.k1,g,cap,es,(World.cell?_of_block (a:=⟨Bk,0,none⟩) hb).trans h1,h2.ext k,h3,fun i hi=>?_⟩
 obtain ⟨e,h5,h6⟩:=h4 i hi
 exact ⟨e,h5,h6.below k⟩
theorem By.amn {T:TypeId} {w:World} {g:Nat} {o:List Nat} (h:By T w g o) {p:Addr} (hp:p.block=g) {v:Value} (hv:w.cell? p=some v):¬ Sl v:=by
 unfold By at h
 unfold World.cell? at hv
 rw [hp,h] at hv
 simp only at hv
 split at hv
 · cases hv
 · have:=Array.mem_of_getElem? hv
   have h2:=Array.mem_toList_iff.2 this
   simp only [Bv] at h2
   obtain ⟨z,_,rfl⟩:=List.mem_map.1 h2
   rintro ⟨a,l,c,e⟩
   cases e
theorem Lp.DZ {B b n:Nat} {T:TypeId} {w w':World} {Bk K q:Nat} {o:List Nat} (h:Lp B b n w Bk K) (hB:By T w q o) (k:But q w w'):Lp B b n w' Bk K:=by
 have hlt:=h.lt
 obtain ⟨g,cap,es,h1,h2,h3,h4⟩:=h.row
 have hq:Bk≠q:=fun e=>hB.amn (p:=⟨Bk,0,none⟩) e h1 ⟨_,_,_,rfl⟩
 have hb:w'.heap[Bk]?=w.heap[Bk]?:=k.block Bk hlt (fun e=>hq (by injection e))
 have hg:g≠q:=by
  intro e
  have hk1:=h.k1
  have hc:=h2.cell (j:=0) (by omega)
  obtain ⟨e0,h5,h6⟩:=h4 0 (by omega)
  rw [h5] at hc
  exact hB.amn (p:=⟨g,0,none⟩) e hc h6.sl
 refine ⟨h.lo,(World.frozen?_of_block (a:=⟨Bk,0,none⟩) hb).trans h.fr,h.k1,g,cap,es,(World.cell?_of_block (a:=⟨Bk,0,none⟩) hb).trans h1,h2.of (k.block g h2.lt (fun e=>hg (by injection e))),h3,fun i hi=>?_⟩
 obtain ⟨e,h5,h6⟩:=h4 i hi
 exact ⟨e,h5,U.DZ h6 hB k⟩
theorem amo (w:World) (va:Value) (p:Nat) (hu:Un w va p) (hp:p<4294967296) :
  Calls Tryz.prog 24 #[va,.int .i64 16] w fun e w'=>∃ u,e = .returned u∧Un w' u (p^16)∧Ext w w' :=
 asg w va p 1 16 hu (by unfold LB;simpa using hp) (by omega) (by omega) (by omega) _ rfl
set_option maxRecDepth 100000 in
set_option maxHeartbeats 4000000 in
theorem yu (w:World) (B b n p:Nat) (hS:Sc b n p) (hB:B≤w.heap.size) :
  Calls Tryz.prog 98 #[SV b n p] w fun e w'=>(∃ Bk,e = .returned (.func (.func 150) #[] #[.pointer (some ⟨Bk,0,none⟩)])∧Lp B b n w' Bk 1∧w.heap.size≤Bk)∧Ext w w':=by
 have hp2:=hS.p2
 have hpf:=hS.fit
 have hk0:=ac6 b n p hS.pw
 have hmf:∀ (fn:Fn) (first cap:Array Value) (w:World),(Instr.makeFunc fn first cap).run Tryz.prog w = .ok (.func fn first cap) w:=fun _ _ _ _=>rfl
 have hE0:=((Ext.refl w).alloc (.cells #[.int .u32 (b:Nat),.int .i64 (n:Nat),.int .u32 (p:Nat)] 135)).alloc (.cells #[.int .u32 (p:Nat)] 27)
 have hu0:=YX (w.alloc (.cells #[.int .u32 (b:Nat),.int .i64 (n:Nat),.int .u32 (p:Nat)] 135)) p (by omega) hpf
 have hsz:(w.alloc (.cells #[.int .u32 (b:Nat),.int .i64 (n:Nat),.int .u32 (p:Nat)] 135)).heap.size=w.heap.size+1:=by simp
 rw [hsz] at hu0
 go_enter Tryz.func98,Tryz.ntmps98
 go_wp2_with (go_at_call 24;refine (amo _ _ p hu0 hpf).mono ?_;rintro e w3 ⟨u,rfl,hu3,bJ⟩;obtain ⟨A,l,c,rfl⟩:=U.sl hu3)
 go_ret
 have hE:=hE0.below bJ
 have hs:=hE.size
 have hR:=(JQ.new B w3 (.slice A l c) ⟨_,_,_,rfl⟩ (Nat.le_trans hB hs))
 have hR2:=hR.ext ((Ext.refl _).alloc (.cells #[.slice (some ⟨w3.heap.size,0,none⟩) 1 1] 181))
 have bE:=((Ext.refl w3).alloc (.cells #[.slice A l c] 22)).alloc (.cells #[.slice (some ⟨w3.heap.size,0,none⟩) 1 1] 181)
 refine ⟨⟨w3.heap.size+1,rfl,⟨by omega,by go_simp,by omega,w3.heap.size,1,_,by go_simp,hR2,by omega,fun i hi=>?_⟩,by omega⟩,hE.below bE⟩
 obtain rfl:i=0:=by omega
 exact ⟨_,rfl,by rw [hk0];exact hu3.below bE⟩
end Go.Proofs.YtfhcmggpojhegaaGreatDoor
/- One power is told; what was told is kept. -/
namespace Go.Proofs.YtfhcmggpojhegaaGreatDoor
open Go.RowKit
set_option linter.unusedVariables false
set_option maxHeartbeats 400000
attribute [local go_sem ↓] fU
attribute [local go_sem] bY
theorem adP {B b n Bk m g cap g' cap':Nat} {es:List Value} {w3 w':World} {A:Option Addr} {l c:Nat} {T:TypeId} (lo:B≤Bk) (hk:m+2≤1000) (hlt:Bk<w3.heap.size) (hB:B≤w3.heap.size)
  (hc:w3.cell? ⟨Bk,0,none⟩=some (.slice (some ⟨g,0,none⟩) (m+1) cap)) (hf:w3.frozen? ⟨Bk,0,none⟩=false)
  (hgb:(w3.alloc (.cells #[.slice A l c] T)).grownBy w' (some g)) (hne:g≠Bk) (hg':g'=g∨g'=(w3.alloc (.cells #[.slice A l c] T)).heap.size)
  (hR:JQ B w' g' (m+1+1) cap' (es++[.slice A l c])) (hlen:es.length=m+1) (hes:∀ i,i<m+1→∃ e,es[i]?=some e∧Un w3 e (kp b n i)) (hu:Un w3 (.slice A l c) (kp b n m*kp b n m))
  (Xb:tT B (w3.alloc (.cells #[.slice A l c] T)) w') :
  w'.cell? ⟨Bk,0,none⟩=some (.slice (some ⟨g,0,none⟩) (m+1) cap)∧w'.frozen? ⟨Bk,0,none⟩=false∧Bk<w'.heap.size ∧
   Lp B b n (w'.setCell ⟨Bk,0,none⟩ (.slice (some ⟨g',0,none⟩) (m+1+1) cap')) Bk (m+1+1)∧tT B w3 (w'.setCell ⟨Bk,0,none⟩ (.slice (some ⟨g',0,none⟩) (m+1+1) cap')):=by
 have hE:=(Ext.refl w3).alloc (.cells #[.slice A l c] T)
 have hsz:w3.heap.size<(w3.alloc (.cells #[.slice A l c] T)).heap.size:=by simp
 have hblk:w'.heap[Bk]?=w3.heap[Bk]?:=(hgb.block Bk (by omega) (fun e=>hne (by injection e with e;exact e.symm))).trans (hE.block Bk hlt)
 have hc':w'.cell? ⟨Bk,0,none⟩=some (.slice (some ⟨g,0,none⟩) (m+1) cap):=(World.cell?_of_block (a:=⟨Bk,0,none⟩) hblk).trans hc
 have hf':w'.frozen? ⟨Bk,0,none⟩=false:=(World.frozen?_of_block (a:=⟨Bk,0,none⟩) hblk).trans hf
 have hk3:tT B w3 w':=(tT.JO hB hE).trans Xb
 have hgn:g'≠Bk:=by rcases hg' with e | e<;>omega
 have hks:tT B w3 (w'.setCell ⟨Bk,0,none⟩ (.slice (some ⟨g',0,none⟩) (m+1+1) cap')):=by
  refine ⟨hk3.below.trans ⟨rfl,rfl,rfl,by simp [World.setCell],fun k hkB=>heap_setCell_other w' ⟨Bk,0,none⟩ k _ (by show k≠Bk;omega)⟩,fun p v hv hns=>?_⟩
  have h1:=hk3.cell p v hv hns
  rw [World.cell?_setCell_other _ _ _ _ (fun e=>?_)]
  · exact h1
  · rw [← e,hc'] at h1
    injection h1 with h1
    exact hns ⟨_,_,_,h1.symm⟩
 refine ⟨hc',hf',Lm hc',⟨lo,by rw [World.frozen?_setCell];exact hf',by omega,g',cap',_,World.cell?_setCell_same _ _ _ hc',hR.of (heap_setCell_other _ ⟨Bk,0,none⟩ _ _ hgn),hgn,fun i hi=>?_⟩,hks⟩
 rcases Nat.lt_or_ge i (m+1) with h | h
 · obtain ⟨e,h1,h2⟩:=hes i h
   exact ⟨e,by rw [List.getElem?_append_left (by omega)];exact h1,h2.JP hks⟩
 · obtain rfl:i=m+1:=by omega
   refine ⟨_,by rw [List.getElem?_append_right (by omega),hlen,Nat.sub_self];rfl,?_⟩
   rw [KI]
   exact hu.JP hks
set_option maxRecDepth 100000 in
set_option maxHeartbeats 4000000 in
theorem vQ (w:World) (B b n Bk K i:Nat) (hK:Lp B b n w Bk K) (hB:B≤w.heap.size) (hi:i<900) (hl:∀ j,j<i→(limbs (kp b n j)).length≤398) :
  Calls Tryz.prog 150 #[.int .i64 (i:Nat),.pointer (some ⟨Bk,0,none⟩)] w fun e w'=>(∃ u,e = .returned u∧Un w' u (kp b n i))∧(∃ K',i<K'∧K≤K'∧Lp B b n w' Bk K')∧tT B w w'∧(i<K→w'=w):=by
 have HL:=Lib.hid hl
 have HB0:=Lib.hid hB
 have HK:=Lib.hid hK
 have YZ:=tT.refl B w
 obtain ⟨g0,cap0,es0,hc0,_⟩:=hK.row
 clear hl hK
 go_enter Tryz.func150,Tryz.ntmps150
 go_wp2
 go_loopw [4] (fun t wr=>∃ Kr,K≤Kr∧Hid (Lp B b n wr Bk Kr)∧tT B w wr∧Hid (i<K→wr=w)) (fun _ wr=>match wr.cell? ⟨Bk,0,none⟩ with | some (.slice _ l _)=>i+1-l | _=>0)
 case atStart=>exact ⟨K,Nat.le_refl _,HK,YZ,fun _=>rfl⟩
 case round =>
  clear HK YZ hc0
  obtain ⟨Kr,hKr,HK,Xb,him⟩:=hrel
  have hbs:=HK.out.lt
  have hfr:=HK.out.fr
  have hlo:=HK.out.lo
  have hk1:=HK.out.k1
  obtain ⟨g,cap,es,hc,hR,hne,hes⟩:=HK.out.row
  by_cases hlt:Kr≤i
  · obtain ⟨m,hm⟩:∃ m,Kr=m+1:=⟨Kr-1,by omega⟩
    subst hm
    obtain ⟨e,hem,hum⟩:=hes m (by omega)
    obtain ⟨A,l,c,rfl⟩:=U.sl hum
    have hcm:=(hR.cell (j:=m) (by omega)).trans hem
    have hu1:Un wr.drew (.slice A l c) (kp b n m):=hum
    have hlm:=Lib.hid (HL.out m (by omega))
    have hgl:=hR.lt
    have hE1:Ext wr wr.drew:=(Ext.refl wr).drew
    have hBr:B≤wr.heap.size:=Nat.le_trans HB0.out Xb.size
    have hRH:=Lib.hid hR
    have asl:=Lib.hid hes
    have Y0:=Lib.hid Xb
    clear hum hem HK him hR hes Xb
    go_wp2
    go_region_with (go_at_call 17;refine (mulN _ _ _ _ _ _ hu1 hu1 hlm.out hlm.out rfl).mono ?_;rintro e w3 ⟨u,rfl,hu3,bJ⟩;obtain ⟨A3,l3,c3,rfl⟩:=U.sl hu3;have bX:=hE1.below bJ;have hs3:=bX.size;have hb3:Bk<w3.heap.size:=by { omega };have hc3:=(bX.cell (p:=⟨Bk,0,none⟩) hbs).trans hc;have hf3:w3.frozen? ⟨Bk,0,none⟩=false:=(World.frozen?_of_block (a:=⟨Bk,0,none⟩) (bX.block Bk hbs)).trans hfr;have hR3:=(hRH.out.ext bX).ext ((Ext.refl w3).alloc (.cells #[.slice A3 l3 c3] 22));obtain ⟨g',cap',w',hrun,hR',hgb,hg',amq⟩:=hR3.push (.slice A3 l3 c3) ⟨_,_,_,rfl⟩ ⟨w3.heap.size,0,none⟩ (by go_simp) (by omega) (by simp;omega);obtain ⟨t1,t2,t3⟩:=j5 hrun;obtain ⟨hc',hf',hb',hK',Jc⟩:=adP hlo (by omega) hb3 (by omega) hc3 hf3 hgb hne hg' hR' hRH.out.len (fun j hj=>(asl.out j hj).imp fun e he=>⟨he.1,he.2.below bX⟩) hu3 amq;have hK':=Lib.hid hK';have NG:=Lib.hid (Y0.out.trans ((tT.JO hBr bX).trans Jc));clear hrun hR' hgb hg' amq Jc hR3 hu3 bJ bX)
    all_goals (
     go_wp2
     go_roundw
     case rel=>exact ⟨m+1+1,by omega,hK',NG.out,fun h=>absurd h (by omega)⟩
     case measure =>
      rw [hc,World.cell?_setCell_same _ _ _ hc']
      show i+1-(m+1+1)<i+1-(m+1)
      omega)
  · obtain ⟨e,hem,hum⟩:=hes i (by omega)
    obtain ⟨A,l,c,rfl⟩:=U.sl hum
    have hcm:=(hR.cell (j:=i) (by omega)).trans hem
    have HU:=Lib.hid hum
    clear hum hem hR hes
    go_wp2
    go_ret
    exact ⟨⟨_,rfl,HU.out⟩,⟨Kr,by omega,hKr,HK.out⟩,Xb,him.out⟩
end Go.Proofs.YtfhcmggpojhegaaGreatDoor
/- Which power a number is below. -/
namespace Go.Proofs.YtfhcmggpojhegaaGreatDoor
open Go.RowKit
set_option linter.unusedVariables false
set_option maxHeartbeats 400000
abbrev Pn (Bk:Nat):Value:=.func (.func 150) #[] #[.pointer (some ⟨Bk,0,none⟩)]
theorem adQ (a k:Nat) (h:k≤a):∃ c:Int,dY a k=c∧0≤c:=by
 rcases Nat.lt_or_ge k a with h1 | h1
 · exact ⟨1,lW (by omega),by decide⟩
 · obtain rfl:a=k:=by omega
   exact ⟨0,oW _,by decide⟩
theorem Y1 {b n i a:Nat} (h:kp b n i≤a) (hl:(limbs a).length≤398):(limbs (kp b n i)).length≤398:=Nat.le_trans (eZ h) hl
set_option maxRecDepth 100000 in
set_option maxHeartbeats 4000000 in
theorem NH (w:World) (B b n Bk K a I:Nat) (va:Value) (hu:Un w va a) (hK:Lp B b n w Bk K) (hB:B≤w.heap.size) (hI:I≤800) (haI:a<kp b n I) (hl:∀ j,j<I→kp b n j≤a) (hal:(limbs a).length≤398) :
  Calls Tryz.prog 105 #[va,Pn Bk] w fun e w'=>e = .returned (.int .i64 (I:Nat))∧(∃ K',I<K'∧K≤K'∧Lp B b n w' Bk K')∧tT B w w':=by
 have HL:=Lib.hid hl
 have HAL:=Lib.hid hal
 have HAI:=Lib.hid haI
 have HB0:=Lib.hid hB
 have HK:=Lib.hid hK
 have YZ:=tT.refl B w
 have azC:=hK.lt
 obtain ⟨A,l,c,rfl⟩:=U.sl hu
 clear hl hK hal haI
 unfold Pn
 go_enter Tryz.func105,Tryz.ntmps105
 go_wp2
 go_loopw [5] (fun t wr=>∃ i,i≤I∧t = .int .i64 (i:Nat)∧(∃ K',K≤K'∧(i=0∨i-1<K')∧Hid (Lp B b n wr Bk K'))∧tT B w wr∧Un wr (.slice A l c) a) (fun t _=>I-(intOf t).toNat)
 case atStart=>exact ⟨0,Nat.zero_le _,rfl,⟨K,Nat.le_refl _,.inl rfl,HK⟩,YZ,hu⟩
 case round =>
  clear HK YZ hu
  obtain ⟨i,hi,rfl,⟨Kr,hKr,_,HK⟩,Xb,hu⟩:=hrel
  have hBr:B≤wr.heap.size:=Nat.le_trans HB0.out Xb.size
  have hPC:=Lib.hid (vQ wr B b n Bk Kr i HK.out hBr (by omega) (fun j hj=>Y1 (HL.out j (by omega)) HAL.out))
  by_cases hlt:i<I
  · obtain ⟨k,hk,hk0⟩:=adQ a (kp b n i) (HL.out i hlt)
    have Y0:=Lib.hid Xb
    clear HK Xb
    go_wp2_with (first
     | (go_at_call 150;refine hPC.out.mono ?_;rintro e w3 ⟨⟨u,rfl,hu3⟩,⟨K3,hi3,hK3,Y2⟩,Jc,_⟩;obtain ⟨A3,l3,c3,rfl⟩:=U.sl hu3;have Y3:=Lib.hid Y2;have BV:=Un.JP hu Jc;have NG:=Lib.hid (Y0.out.trans Jc);clear Y2 Jc)
     | (go_at_call 31;refine (pU _ _ _ _ _ BV hu3 k hk).mono ?_;rintro e w5 ⟨rfl,bE⟩))
    go_roundw
    case rel=>exact ⟨i+1,by omega,by go_num,⟨K3,by omega,.inr (by omega),Y3.out.ext bE⟩,NG.out.ext (Nat.le_trans (by omega) (Nat.le_refl _)) bE,BV.below bE⟩
    case measure=>simp [intOf];omega
  · obtain rfl:i=I:=by omega
    have hk:dY (a:Int) (kp b n i:Nat) = -1:=kU (by have:=HAI.out;omega)
    have Y0:=Lib.hid Xb
    clear HK Xb
    go_wp2_with (first
     | (go_at_call 150;refine hPC.out.mono ?_;rintro e w3 ⟨⟨u,rfl,hu3⟩,⟨K3,hi3,hK3,Y2⟩,Jc,_⟩;obtain ⟨A3,l3,c3,rfl⟩:=U.sl hu3;have Y3:=Lib.hid Y2;have BV:=Un.JP hu Jc;have NG:=Lib.hid (Y0.out.trans Jc);clear Y2 Jc)
     | (go_at_call 31;refine (pU _ _ _ _ _ BV hu3 (-1) hk).mono ?_;rintro e w5 ⟨rfl,bE⟩))
    go_ret
    exact ⟨rfl,⟨K3,hi3,by omega,Y3.out.ext bE⟩,NG.out.ext HB0.out bE⟩
end Go.Proofs.YtfhcmggpojhegaaGreatDoor
/- A row of digits is split at a power. -/
namespace Go.Proofs.YtfhcmggpojhegaaGreatDoor
open Go.RowKit
set_option linter.unusedVariables false
set_option maxHeartbeats 400000
theorem By.int {T:TypeId} {w:World} {g:Nat} {o:List Nat} (h:By T w g o) {p:Addr} (hp:p.block=g) {v:Value} (hv:w.cell? p=some v):∃ x:Nat,v = .int .u8 (x:Nat):=by
 unfold By at h
 unfold World.cell? at hv
 rw [hp,h] at hv
 simp only at hv
 split at hv
 · cases hv
 · have:=Array.mem_of_getElem? hv
   have h2:=Array.mem_toList_iff.2 this
   simp only [Bv] at h2
   obtain ⟨z,_,rfl⟩:=List.mem_map.1 h2
   exact ⟨z,rfl⟩
def Fb (w:World) (Q:Nat) (f:Value):Prop:=Q<w.heap.size∧w.cell? ⟨Q,0,none⟩=some f
theorem Fb.ext {w w':World} {Q:Nat} {f:Value} (h:Fb w Q f) (k:Ext w w'):Fb w' Q f:=⟨Nat.lt_of_lt_of_le h.1 k.size,(k.cell (p:=⟨Q,0,none⟩) h.1).trans h.2⟩
theorem Fb.but {w w':World} {Q g:Nat} {f:Value} (h:Fb w Q f) (k:But g w w') (hne:Q≠g):Fb w' Q f:=⟨Nat.lt_of_lt_of_le h.1 k.size,(k.cell (p:=⟨Q,0,none⟩) h.1 hne).trans h.2⟩
theorem Fb.JP {B:Nat} {w w':World} {Q:Nat} {f:Value} (h:Fb w Q f) (k:tT B w w') (hf:¬ Sl f):Fb w' Q f:=⟨Nat.lt_of_lt_of_le h.1 k.size,k.cell _ _ h.2 hf⟩
abbrev Sfn (S Pb Sb:Nat):Value:=.func (.func 103) #[] #[.pointer (some ⟨S,0,none⟩),.pointer (some ⟨Pb,0,none⟩),.pointer (some ⟨Sb,0,none⟩)]
structure Xd (B b n p:Nat) (w:World) (S Pb Sb Bk K:Nat):Prop where
 sc:DY w S b n p
 pw:Fb w Pb (Pn Bk)
 sp:Fb w Sb (Sfn S Pb Sb)
 kp:Lp B b n w Bk K
theorem Xd.ext {B b n p:Nat} {w w':World} {S Pb Sb Bk K:Nat} (h:Xd B b n p w S Pb Sb Bk K) (k:Ext w w'):Xd B b n p w' S Pb Sb Bk K:=⟨h.sc.ext k,h.pw.ext k,h.sp.ext k,h.kp.ext k⟩
theorem Xd.ne {T:TypeId} {B b n p:Nat} {w:World} {S Pb Sb Bk K g:Nat} {o:List Nat} (h:Xd B b n p w S Pb Sb Bk K) (hB:By T w g o):S≠g∧Pb≠g∧Sb≠g:=by
 refine ⟨fun e=>?_,fun e=>?_,fun e=>?_⟩
 · obtain ⟨x,hx⟩:=hB.int (p:=⟨S,0,none⟩) e h.sc.2.1
   cases hx
 · obtain ⟨x,hx⟩:=hB.int (p:=⟨Pb,0,none⟩) e h.pw.2
   cases hx
 · obtain ⟨x,hx⟩:=hB.int (p:=⟨Sb,0,none⟩) e h.sp.2
   cases hx
theorem Xd.DZ {T:TypeId} {B b n p:Nat} {w w':World} {S Pb Sb Bk K g:Nat} {o:List Nat} (h:Xd B b n p w S Pb Sb Bk K) (hB:By T w g o) (k:But g w w'):Xd B b n p w' S Pb Sb Bk K:=by
 obtain ⟨h1,h2,h3⟩:=h.ne hB
 exact ⟨h.sc.but k h1,h.pw.but k h2,h.sp.but k h3,h.kp.DZ hB k⟩
theorem TY {w w':World} {Q g:Nat} {f:Value} (h:Q<w.heap.size∧w.cell? ⟨Q,0,none⟩=some f) (k:But g w w') (hne:Q≠g):Q<w'.heap.size∧w'.cell? ⟨Q,0,none⟩=some f:=Fb.but h k hne
theorem VO {b n g h len off cap:Nat} {pre mid post:List Nat} (hpre:pre.length=off) (hmid:mid.length=len) (hl2:len=2*h):(mid.take h).length=h∧(mid.drop h).length=h∧pre++(mid++post)=pre++(mid.take h++(mid.drop h++post)):=by
 refine ⟨by rw [List.length_take];omega,by rw [List.length_drop];omega,?_⟩
 rw [← List.append_assoc (mid.take h),List.take_append_drop]
set_option maxRecDepth 100000 in
set_option maxHeartbeats 4000000 in
theorem NI (B b n p S Pb Sb Bk K g cap0:Nat) (hS:Sc b n p) (hcm:cap0≤1000000000):∀ (i:Nat),i<K→i≤800→(∀ j,j<i→(limbs (kp b n j)).length≤398)→∀ (w:World) (off len cap:Nat) (pre mid post:List Nat),By 5 w g (pre++(mid++post))→pre.length=off→mid.length=len→16*n*2^i=len→len≤cap→cap≤cap0→off+len≤1000000000 →
  ∀ (v:Value) (a:Nat),Un w v a→(limbs a).length≤1000→a<kp b n i→Xd B b n p w S Pb Sb Bk K→B≤w.heap.size →
  Calls Tryz.prog 103 #[.slice (some ⟨g,off,none⟩) len cap,v,.int .i64 (i:Nat),.pointer (some ⟨S,0,none⟩),.pointer (some ⟨Pb,0,none⟩),.pointer (some ⟨Sb,0,none⟩)] w fun e w'=>e = .returned (.tuple #[])∧By 5 w' g (pre++((fP b a len).map jg++post))∧But g w w':=by
 intro i
 induction i with
 | zero =>
  intro hK _ _ w off len cap pre mid post hBy hpre hmid hlen hcap hcap0 _ v a hu hla ha QA hB
  obtain ⟨s0,s1,s2,s3⟩:=id QA.sc
  have F3:16*n=len:=by rw [Nat.pow_zero,Nat.mul_one] at hlen;exact hlen
  have ha2:a<b^len:=by
   have h9:kp b n 0=b^(16*n):=by unfold kp;rw [Nat.pow_zero,Nat.mul_one]
   rw [h9,F3] at ha
   exact ha
  obtain ⟨A,l,c,rfl⟩:=U.sl hu
  have hW:=Lib.hid (NE w b n p hS g off len cap pre mid post hBy hpre hmid hcap (by omega) (.slice A l c) a hu (by omega) ha2)
  clear hu hBy hpre hmid hlen F3 ha ha2 QA
  go_enter Tryz.func103,Tryz.ntmps103
  go_wp2_with (go_at_call 104;refine hW.out.mono ?_;rintro e w3 ⟨rfl,hB3,AL⟩;have HB3:=Lib.hid hB3;clear hB3)
  exact bodyPost_ret (v:=.tuple #[]) (results_none rfl _ _ _) rfl ⟨rfl,HB3.out,AL⟩
 | succ i ih =>
  intro hK hi8 hlim w off len cap pre mid post hBy hpre hmid hlen hcap hcap0 hoff v a hu hla ha QA hB
  obtain ⟨h,hh⟩:∃ h,16*n*2^i=h:=⟨_,rfl⟩
  have hl2:len=2*h:=by rw [← hlen,← hh,Nat.pow_succ,← Nat.mul_assoc,Nat.mul_comm]
  have hh1:1≤h:=by rw [← hh];have:=hS.n1;have:=Nat.two_pow_pos i;exact Nat.mul_pos (by omega) this
  have hsp:=XB b n i a hS.b2 ha
  rw [hlen,hh] at hsp
  obtain ⟨q,hq⟩:∃ q,a/kp b n i=q:=⟨_,rfl⟩
  obtain ⟨r,hr⟩:∃ r,a%kp b n i=r:=⟨_,rfl⟩
  have amr:kp b n i≠0:=by have:=Nat.pow_pos (n:=16*n*2^i) (show 0<b by have:=hS.b2;omega);unfold kp;omega
  have hrk:r<kp b n i:=by rw [← hr];exact Nat.mod_lt _ (by omega)
  rw [hq,hr] at hsp
  have SQ:(limbs q).length≤1000:=Nat.le_trans (eZ (by rw [← hq];exact Nat.div_le_self _ _)) hla
  have hrl:(limbs r).length≤1000:=Nat.le_trans (eZ (by rw [← hr];exact Nat.mod_le _ _)) hla
  obtain ⟨hm1,hm2,QB⟩:=VO (b:=b) (n:=n) (g:=g) (off:=off) (cap:=cap) (post:=post) hpre hmid hl2
  rw [QB] at hBy
  have hih:=fun w off cap pre mid post h1 h2 h3 h4 h5 h6 v a h7 h8 h9 h10 h11=>ih (by omega) (by omega) (fun j hj=>hlim j (by omega)) w off h cap pre mid post h1 h2 h3 hh h4 h5 h6 v a h7 h8 h9 h10 h11
  have HIH:=Lib.hid hih
  have hpc:=vQ w B b n Bk K i QA.kp hB (by omega) (fun j hj=>hlim j (by omega))
  have Xk:=fun u hu2=>iI w v u a (kp b n i) q r hu hu2 hla (Nat.le_trans (hlim i (by omega)) (by omega)) amr hq hr
  have acX:Hid (pre++(fP b q h).map jg++((fP b r h).map jg++post)=pre++((fP b a len).map jg++post)):=by
   show _=_
   rw [hsp.2,List.map_append,List.append_assoc,List.append_assoc]
  have hqk:=Lib.hid hsp.1
  have asn:=Lib.hid hrk
  have hpl:Hid ((pre++(fP b q h).map jg).length=off+h):=by show _=_;rw [List.length_append,List.length_map,iZ,hpre]
  have hM1:=Lib.hid hm1
  have hM2:=Lib.hid hm2
  have hPR:=Lib.hid hpre
  obtain ⟨A,l,c,rfl⟩:=U.sl hu
  have HPC:=Lib.hid hpc
  have HDM:=Lib.hid Xk
  obtain ⟨z,hz⟩:∃ z:Int,((i+1:Nat):Int)=z:=⟨_,rfl⟩
  have o1:z-1=(i:Int):=by omega
  have o2:¬ (z=0):=by omega
  rw [hz]
  have o3:(len:Int).tdiv 2=(h:Int):=by rw [Int.tdiv_eq_ediv_of_nonneg (Int.natCast_nonneg _)];omega
  have o4:(len:Int)/2=(h:Int):=by omega
  have o5:(h:Int)≤(len:Int):=by omega
  have o6:(h:Int)≤(cap:Int):=by omega
  have o7:¬ (cap=h):=by omega
  have o8:len-h=h:=by omega
  have o9:(0:Int)≤(h:Int):=by omega
  have o10:IntKind.i64.wrap (h:Int)=(h:Int):=by rw [IntKind.wrap_i64];omega
  have o11:IntKind.i64.wrap (len:Int)=(len:Int):=by rw [IntKind.wrap_i64];omega
  have o12:IntKind.i64.wrap (i:Int)=(i:Int):=by rw [IntKind.wrap_i64];omega
  have o13:(h:Int)≤(h:Int):=Int.le_refl _
  have hcc:h≤cap∧cap≤cap0∧h≤cap-h∧cap-h≤cap0∧off+h≤1000000000∧off+h+h≤1000000000:=by omega
  have HCC:=Lib.hid hcc
  obtain ⟨b0,b1⟩:=id QA.pw
  have ams:=b1
  unfold Pn at ams
  have aso:=Lib.hid QA
  have HBy:=Lib.hid hBy
  clear hz hih hpc Xk hq hr hsp hrk hm1 hm2 QB hpre hmid hlen hl2 hh hcc hBy hla ha amr hlim b0 b1 QA hS hu
  go_enter Tryz.func103,Tryz.ntmps103
  go_wp2_with (first
   | (go_at_call 150;refine HPC.out.mono ?_;rintro e w3 ⟨⟨u,rfl,hu3⟩,_,_,hw3⟩;obtain rfl:=hw3 (by omega);obtain ⟨Au,lu,cu,rfl⟩:=U.sl hu3)
   | (go_at_call 18;refine (HDM.out _ hu3).mono ?_;rintro e w5 ⟨⟨x,y,rfl,hx,hy⟩,bE⟩;obtain ⟨Ax,lx,cx,rfl⟩:=U.sl hx;obtain ⟨Ay,ly,cy,rfl⟩:=U.sl hy))
  have dJ:By 5 w5.drew g _:=HBy.out.ext bE.drew
  have hL5:Xd B b n p w5.drew S Pb Sb Bk K:=aso.out.ext bE.drew
  have hx5:Un w5.drew (.slice Ax lx cx) q:=hx
  have Ci:B≤w5.drew.heap.size:=Nat.le_trans hB bE.size
  have hS0:Sb<w5.drew.heap.size∧w5.drew.cell? ⟨Sb,0,none⟩=some (.func (.func 103) #[] #[.pointer (some ⟨S,0,none⟩),.pointer (some ⟨Pb,0,none⟩),.pointer (some ⟨Sb,0,none⟩)]):=hL5.sp
  have azH:=(hL5.ne dJ).2.2
  have HC1:=Lib.hid (HIH.out w5.drew off cap pre _ _ dJ hPR.out hM1.out HCC.out.1 HCC.out.2.1 HCC.out.2.2.2.2.1 _ q hx5 SQ hqk.out hL5 Ci)
  have hy5:Hid (Un w5.drew (.slice Ay ly cy) r):=hy
  have HB5:=Lib.hid dJ
  have HL5:=Lib.hid hL5
  have yt:=(But.refl g _).ext bE.drew
  clear dJ hL5 hx5 hx hy hu3 hw3 ams
  go_region_held3 (fun X=>Sb<X.heap.size∧X.cell? ⟨Sb,0,none⟩=some (.func (.func 103) #[] #[.pointer (some ⟨S,0,none⟩),.pointer (some ⟨Pb,0,none⟩),.pointer (some ⟨Sb,0,none⟩)]))
   (first
    | exact hS0
    | assumption
    | exact TY (by assumption) (by assumption) (by assumption))
   (first
    | (go_at_call 103;((with_reducible refine HC1.out.mono ?_);rintro e6 w6 ⟨rfl,dV,FY⟩)))
  have amu:By 5 w6.drew g (pre++(fP b q h).map jg++(mid.drop h++post)):=by rw [List.append_assoc];exact dV
  have hbd:But g w6 w6.drew:=(But.refl g w6).drew
  have hL6:Xd B b n p w6.drew S Pb Sb Bk K:=(HL5.out.DZ HB5.out FY).ext (Ext.refl w6).drew
  have amv:Un w6 (.slice Ay ly cy) r:=U.DZ hy5.out HB5.out FY
  have hy6:Un w6.drew (.slice Ay ly cy) r:=amv
  have dP:B≤w6.drew.heap.size:=Nat.le_trans Ci FY.size
  have hS1:Sb<w6.drew.heap.size∧w6.drew.cell? ⟨Sb,0,none⟩=some (.func (.func 103) #[] #[.pointer (some ⟨S,0,none⟩),.pointer (some ⟨Pb,0,none⟩),.pointer (some ⟨Sb,0,none⟩)]):=hL6.sp
  have HC2:=Lib.hid (HIH.out w6.drew (off+h) (cap-h) _ _ _ amu hpl.out hM2.out HCC.out.2.2.1 HCC.out.2.2.2.1 HCC.out.2.2.2.2.2 _ r hy6 hrl asn.out hL6 dP)
  have amw:=Lib.hid ((yt.trans FY).trans hbd)
  clear HC1 hS0 dV amu hbd hL6 hy6 amv FY yt HIH
  go_wp2_with (fail)
  go_region_held3 (fun X=>Sb<X.heap.size∧X.cell? ⟨Sb,0,none⟩=some (.func (.func 103) #[] #[.pointer (some ⟨S,0,none⟩),.pointer (some ⟨Pb,0,none⟩),.pointer (some ⟨Sb,0,none⟩)]))
   (first
    | exact hS1
    | assumption
    | exact TY (by assumption) (by assumption) (by assumption))
   (first
    | (go_at_call 103;((with_reducible refine HC2.out.mono ?_);rintro e8 w8 ⟨rfl,dU,amx⟩)))
  rw [acX.out] at dU
  have HB8:=Lib.hid dU
  clear dU
  (try go_wp2)
  exact bodyPost_end (results_none rfl _ _ _) rfl ⟨rfl,HB8.out,amw.out.trans amx⟩
end Go.Proofs.YtfhcmggpojhegaaGreatDoor
