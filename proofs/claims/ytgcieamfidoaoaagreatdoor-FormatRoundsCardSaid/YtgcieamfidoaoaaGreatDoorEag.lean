/- Regions that draw their order: whichever order comes up, the same is known at the end. -/
import Derived.Test.YtgcieamfidoaoaaGreatDoorEaf
set_option linter.all false
set_option maxHeartbeats 8000000
namespace Go.Proofs.YtgcieamfidoaoaaGreatDoor.Rf
open Go Go.RowKit Go.Proofs.YtgcieamfidoaoaaGreatDoor.Pl
set_option maxRecDepth 100000
def rem (M:Nat):Nat→Nat
 | 0=>0
 | n+1=>rem M n+(if M.testBit n=true then 0 else 1)
theorem Jp {M:Nat}:∀ {N:Nat},rem M N=0→∀ j,j<N→M.testBit j=true
 | 0,_,j,h=>by omega
 | N+1,h,j,hj=>by
  unfold rem at h
  by_cases hb:M.testBit N=true
  · rcases Nat.lt_or_ge j N with hl | hl
    · exact Jp (N:=N) (by omega) j hl
    · rw [show j=N by omega];exact hb
  · rw [if_neg hb] at h;omega
theorem MX {M:Nat}:∀ {N:Nat},(∀ j,j<N→M.testBit j=true)→rem M N=0
 | 0,_=>rfl
 | N+1,h=>by unfold rem;rw [MX (N:=N) fun j hj=>h j (by omega),if_pos (h N (by omega))]
theorem uU (M i j:Nat):(Nat.lor M (Nat.shiftLeft 1 i)).testBit j=(M.testBit j||decide (j=i)):=by
 have h2:(Nat.lor M (Nat.shiftLeft 1 i)).testBit j=(M.testBit j||(Nat.shiftLeft 1 i).testBit j):=Nat.testBit_or _ _ _
 rw [h2,pX]
theorem MZ {M i:Nat} (hi:M.testBit i=false):∀ {N:Nat},(N≤i→rem (Nat.lor M (Nat.shiftLeft 1 i)) N=rem M N)∧(i<N→rem (Nat.lor M (Nat.shiftLeft 1 i)) N+1=rem M N)
 | 0=>⟨fun _=>rfl,fun h=>by omega⟩
 | N+1=>by
  obtain ⟨h1,h2⟩:=MZ hi (N:=N)
  unfold rem
  rw [uU]
  refine ⟨fun h=>?_,fun h=>?_⟩
  · rw [h1 (by omega),decide_eq_false (show ¬ N=i by omega),Bool.or_false]
  · rcases Nat.lt_or_ge i N with hl | hl
    · have:=h2 hl
      rw [decide_eq_false (show ¬ N=i by omega),Bool.or_false];omega
    · obtain rfl:N=i:=by omega
      rw [h1 (Nat.le_refl _),decide_eq_true rfl,Bool.or_true,if_pos rfl,hi,if_neg (by simp)]
theorem Holds.zH {w0:World} {B:Bx} {Γ Γ':Gm} {α:Env} {γ:kR} {w:World} (h:Holds w0 B Γ α γ w) (e:∀ g,lW Γ' g=lW Γ g):Holds w0 B Γ' α γ w:=⟨h.ex,h.box,h.inj,h.sc,fun g S hg=>h.fact g S (by rw [← e];exact hg)⟩
section
variable {A:Type}
theorem Gz {M g:Nat} {s:A} {base:List (Nat × A)}:∀ {xs:List (Option (Nat × A))},wQ (sel M base xs) g=some s→(∃ j,At xs j (some (g,s))∧tb M j=true)∨wQ base g=some s
 | [],h=>.inr h
 | none::xs,h=>by
  rcases Gz (xs:=xs) h with ⟨j,h1,h2⟩ | h
  · exact .inl ⟨j,.inr h1,h2⟩
  · exact .inr h
 | some (d,u)::xs,h=>by
  have key:wQ (sel M base xs) g=some s→(∃ j,At (some (d,u)::xs) j (some (g,s))∧tb M j=true)∨wQ base g=some s:=fun h=>by
   rcases Gz (xs:=xs) h with ⟨j,h1,h2⟩ | h
   · exact .inl ⟨j,.inr h1,h2⟩
   · exact .inr h
  simp only [sel] at h
  cases hb:tb M xs.length with
  | false=>rw [hb] at h;exact key h
  | true =>
   rw [hb] at h
   simp only [wQ] at h
   cases hd:Nat.beq d g with
   | true =>
    rw [hd] at h
    obtain rfl:=Nat.eq_of_beq_eq_true hd
    obtain rfl:=Option.some.inj h
    exact .inl ⟨xs.length,.inl ⟨rfl,rfl⟩,hb⟩
   | false=>rw [hd] at h;exact key h
end
theorem Dp {M k:Nat} {l0:Fr} (h0:Da k l0=true):∀ {xs:List (Option (Nat × SV))},(∀ j e,At xs j (some e)→tb M j=true→Xr k e.2=true)→Da k (sel M l0 xs)=true
 | [],_=>h0
 | none::xs,h=>Dp h0 (xs:=xs) fun j e hj=>h j e (.inr hj)
 | some (d,s)::xs,h=>by
  have ih:=Dp h0 (xs:=xs) fun j e hj=>h j e (.inr hj)
  simp only [sel]
  cases hb:tb M xs.length with
  | false=>exact ih
  | true =>
   show (Xr k s&&Da k _)=true
   rw [ih,h xs.length (d,s) (.inl ⟨rfl,rfl⟩) hb];rfl
theorem yC {M k:Nat} {l0:Fr} (h0:D8 k l0=true):∀ {xs:List (Option (Nat × SV))},(∀ j e,At xs j (some e)→tb M j=true→Xu k e.2=true)→D8 k (sel M l0 xs)=true
 | [],_=>h0
 | none::xs,h=>yC h0 (xs:=xs) fun j e hj=>h j e (.inr hj)
 | some (d,s)::xs,h=>by
  have ih:=yC h0 (xs:=xs) fun j e hj=>h j e (.inr hj)
  simp only [sel]
  cases hb:tb M xs.length with
  | false=>exact ih
  | true =>
   show (Xu k s&&D8 k _)=true
   rw [ih,h xs.length (d,s) (.inl ⟨rfl,rfl⟩) hb];rfl
theorem Dq {M k:Nat} {B0:Bx} (h0:AZ k B0=true):∀ {xs:List (Option (Nat × TypeId × List SV))},(∀ j e,At xs j (some e)→tb M j=true→(!(Nat.beq e.1 k))=true∧qK k e.2.2=true)→AZ k (sel M B0 xs)=true
 | [],_=>h0
 | none::xs,h=>Dq h0 (xs:=xs) fun j e hj=>h j e (.inr hj)
 | some (b,t,cs)::xs,h=>by
  have ih:=Dq h0 (xs:=xs) fun j e hj=>h j e (.inr hj)
  simp only [sel]
  cases hb:tb M xs.length with
  | false=>exact ih
  | true =>
   obtain ⟨h1,h2⟩:=h xs.length (b,t,cs) (.inl ⟨rfl,rfl⟩) hb
   show (!(Nat.beq b k)&&qK k cs&&AZ k _)=true
   rw [ih];dsimp only at h1 h2;rw [h1,h2];rfl
theorem yD {M k:Nat} {B0:Bx} (h0:Db k B0=true):∀ {xs:List (Option (Nat × TypeId × List SV))},(∀ j e,At xs j (some e)→tb M j=true→wP k e.2.2=true)→Db k (sel M B0 xs)=true
 | [],_=>h0
 | none::xs,h=>yD h0 (xs:=xs) fun j e hj=>h j e (.inr hj)
 | some (b,t,cs)::xs,h=>by
  have ih:=yD h0 (xs:=xs) fun j e hj=>h j e (.inr hj)
  simp only [sel]
  cases hb:tb M xs.length with
  | false=>exact ih
  | true =>
   show (wP k cs&&Db k _)=true
   rw [ih,h xs.length (b,t,cs) (.inl ⟨rfl,rfl⟩) hb];rfl
theorem pE {X:Type} {f:It→Option X} {full:Tr} {j:Nat} {e:X} (h:At (full.map f) j (some e)):∃ jt,At full j jt∧f jt=some e:=by
 obtain ⟨jt,h1,h2⟩:=(Gr f).1 h
 exact ⟨jt,h1,h2.symm⟩
theorem K7 {it:It} {e:Nat × SV} (h:it.kF=some e):it.d=some e.1∧it.out=e.2:=by
 obtain ⟨d,s,rd,acc,gs,bx,nw,gh⟩:=it
 cases d with
 | none=>cases h
 | some d=>obtain rfl:=Option.some.inj h;exact ⟨rfl,rfl⟩
theorem acM {it:It} {d:Nat} (h:it.d=some d):it.kF=some (d,it.out):=by
 obtain ⟨d',s,rd,acc,gs,bx,nw,gh⟩:=it
 dsimp only at h
 subst h;rfl
theorem EM {lD:List Nat} {i j:Nat} {it jt:It} (h:pair lD i it j jt=true) :
  (∀ d,jt.d=some d→d∈it.rd→yB lD i j=true)∧(∀ d,jt.d=some d→it.d=some d→yB lD i j=true)∧(∀ b x,jt.bx=some (b,x)→b∈it.acc→yB lD i j=true) ∧
  (∀ b x y,jt.bx=some (b,x)→it.bx=some (b,y)→yB lD i j=true)∧(∀ k,it.nw=some k→SH k jt=true∨(i<j∧tb (qh lD j) i=true)) ∧
  (∀ g S,it.gh=some (g,S)→Jn g jt=true∨(i<j∧tb (qh lD j) i=true))∧(∀ g S S',it.gh=some (g,S)→jt.gh=some (g,S')→False)∧(∀ g S,jt.gh=some (g,S)→g∈it.gs→yB lD i j=true):=by
 unfold pair at h
 simp only [Bool.and_eq_true] at h
 obtain ⟨h1,h2,h3,h4,h5,h6,h7,h8⟩:=h
 refine ⟨fun d hd hm=>?_,fun d hd he=>?_,fun b x hb hm=>?_,fun b x y hb hi=>?_,fun k hk=>?_,fun g S hg=>?_,fun g S S' hg hj=>?_,fun g S hg hm=>?_⟩
 · rw [hd] at h1;simpa [mem_iff hm] using h1
 · rw [hd,he] at h2;simpa [Nat.beq_refl] using h2
 · rw [hb] at h3;simpa [mem_iff hm] using h3
 · rw [hb,hi] at h4;simpa [Nat.beq_refl] using h4
 · rw [hk] at h5
   rw [Bool.or_eq_true,Bool.and_eq_true] at h5
   rcases h5 with h5 | ⟨h5,h6⟩
   · exact .inl h5
   · exact .inr ⟨Nat.lt_of_lt_of_le (Nat.lt_succ_self i) (Nat.le_of_ble_eq_true h5),h6⟩
 · rw [hg] at h6
   rw [Bool.or_eq_true,Bool.and_eq_true] at h6
   rcases h6 with h5 | ⟨h5,h6⟩
   · exact .inl h5
   · exact .inr ⟨Nat.lt_of_lt_of_le (Nat.lt_succ_self i) (Nat.le_of_ble_eq_true h5),h6⟩
 · rw [hg,hj] at h7
   dsimp only at h7
   rw [Nat.beq_refl] at h7;cases h7
 · rw [hg] at h8;simpa [mem_iff hm] using h8
def Al (ord:Option (List Nat)) (A:Nat):Nat→Nat
 | 0=>0
 | j+1=>match tb A (oi ord j) with
  | true=>Nat.lor (Al ord A j) (Nat.shiftLeft 1 j)
  | false=>Al ord A j
theorem zI {ord:Option (List Nat)} {A k:Nat}:∀ {n:Nat},(Al ord A n).testBit k=true↔k<n∧A.testBit (oi ord k)=true
 | 0=>by simp [Al]
 | n + 1=>by
  have ih:=zI (ord:=ord) (A:=A) (k:=k) (n:=n)
  unfold Al
  cases hb:tb A (oi ord n) with
  | true =>
   dsimp only
   rw [uU,Bool.or_eq_true,ih,decide_eq_true_eq]
   rw [jG] at hb
   constructor
   · rintro (⟨h1,h2⟩ | rfl)
     · exact ⟨by omega,h2⟩
     · exact ⟨by omega,hb⟩
   · rintro ⟨h1,h2⟩
     rcases Nat.lt_or_ge k n with h | h
     · exact .inl ⟨h,h2⟩
     · exact .inr (by omega)
  | false =>
   dsimp only
   rw [ih]
   rw [jG] at hb
   constructor
   · rintro ⟨h1,h2⟩;exact ⟨by omega,h2⟩
   · rintro ⟨h1,h2⟩
     refine ⟨?_,h2⟩
     rcases Nat.lt_or_ge k n with h | h
     · exact h
     · exfalso;rw [show k=n by omega,hb] at h2;cases h2
def Jq (T:List Tb) (i:Nat):Nat:=match T[i]? with
 | some t=>t.A
 | none=>0
def vU (T:List Tb) (ord:Option (List Nat)) (n:Nat):Nat→List Nat
 | 0=>[]
 | j+1=>vU T ord n j++[Al ord (Jq T (oi ord j)) n]
theorem uV {T:List Tb} {ord:Option (List Nat)} {n:Nat}:∀ j,(vU T ord n j).length=j
 | 0=>rfl
 | j+1=>by unfold vU;rw [List.length_append,uV j];rfl
theorem uy {T:List Tb} {ord:Option (List Nat)} {n i:Nat}:∀ {j:Nat},i<j→(vU T ord n j)[i]?=some (Al ord (Jq T (oi ord i)) n)
 | 0,h=>by omega
 | j+1,h=>by
  unfold vU
  rcases Nat.lt_or_ge i j with hl | hl
  · rw [List.getElem?_append_left (by rw [uV];exact hl)];exact uy hl
  · obtain rfl:i=j:=by omega
    rw [List.getElem?_append_right (by rw [uV];exact Nat.le_refl _),uV,Nat.sub_self];rfl
def allIn (l:List Nat):Nat→Bool
 | 0=>true
 | n+1=>mem n l&&allIn l n
def nodup:List Nat→Bool
 | []=>true
 | x::l=>!(mem x l)&&nodup l
def M0:List Nat→Nat→Bool
 | [],_=>true
 | x::l,n=>Nat.blt x n&&M0 l n
theorem Jr {n:Nat}:∀ {l:List Nat},M0 l n=true→∀ j,j<l.length→qh l j<n
 | x::l,h,j,hj=>by
  unfold M0 at h
  rw [Bool.and_eq_true] at h
  cases j with
  | zero=>exact Nat.lt_of_lt_of_le (Nat.lt_succ_self x) (Nat.le_of_ble_eq_true h.1)
  | succ j=>exact Jr h.2 j (by simp at hj;omega)
def Dr (ord:Option (List Nat)) (n:Nat):Bool:=match ord with
 | none=>true
 | some l=>Nat.beq l.length n&&(allIn l n&&(nodup l&&M0 l n))
def SL (n:Nat):List Tb→Bool
 | []=>true
 | t::ts=>Nat.beq (Nat.shiftRight t.A n) 0&&SL n ts
theorem M3 {n:Nat}:∀ {ts:List Tb},SL n ts=true→∀ (j:Nat) (t:Tb),ts[j]?=some t→∀ k,t.A.testBit k=true→k<n
 | [],_,j,t,h,_,_=>by simp at h
 | x :: ts,h,j,t,hj,k,hk=>by
  unfold SL at h
  rw [Bool.and_eq_true] at h
  cases j with
  | zero =>
   obtain rfl:x=t:=by simpa using hj
   have h0:x.A >>> n=0:=Nat.eq_of_beq_eq_true h.1
   rcases Nat.lt_or_ge k n with hl | hl
   · exact hl
   · exfalso
     have:(x.A >>> n).testBit (k-n)=true:=by rw [Nat.testBit_shiftRight,show n+(k-n)=k by omega];exact hk
     rw [h0,Nat.zero_testBit] at this;cases this
  | succ j=>exact M3 h.2 j t (by simpa using hj) k hk
theorem M4 {x:Nat}:∀ {l:List Nat},mem x l=true→∃ j,j<l.length∧qh l j=x
 | [],h=>by cases h
 | y::l,h=>by
  unfold mem at h
  rw [Bool.or_eq_true] at h
  rcases h with h | h
  · exact ⟨0,by simp,Nat.eq_of_beq_eq_true h⟩
  · obtain ⟨j,h1,h2⟩:=M4 h
    exact ⟨j+1,by simp;omega,h2⟩
theorem M5:∀ {l:List Nat} {j:Nat},j<l.length→qh l j∈l
 | y::l,0,_=>List.mem_cons_self
 | y::l,j+1,h=>List.mem_cons_of_mem _ (M5 (by simp at h;omega))
theorem EN:∀ {l:List Nat},nodup l=true→∀ i j,i<l.length→j<l.length→qh l i=qh l j→i=j
 | [],_,i,_,h,_,_=>by simp at h
 | x::l,h,i,j,hi,hj,e=>by
  unfold nodup at h
  rw [Bool.and_eq_true] at h
  have hx:∀ q,q<l.length→qh l q≠x:=fun q hq e=>by
   have:=mem_iff (M5 hq)
   rw [e] at this
   rw [this] at h;exact absurd h.1 (by simp)
  cases i with
  | zero=>cases j with
   | zero=>rfl
   | succ j=>exact absurd e.symm (hx j (by simp at hj;omega))
  | succ i=>cases j with
   | zero=>exact absurd e (hx i (by simp at hi;omega))
   | succ j=>rw [EN h.2 i j (by simp at hi;omega) (by simp at hj;omega) e]
theorem Js {l:List Nat}:∀ {n:Nat},allIn l n=true→∀ i,i<n→mem i l=true
 | n+1,h,i,hi=>by
  unfold allIn at h
  rw [Bool.and_eq_true] at h
  rcases Nat.lt_or_ge i n with hl | hl
  · exact Js h.2 i hl
  · rw [show i=n by omega];exact h.1
theorem O6 {ord:Option (List Nat)} {n:Nat} (h:Dr ord n=true):(∀ i,i<n→∃ t,t<n∧oi ord t=i)∧∀ s t,s<n→t<n→oi ord s=oi ord t→s=t:=by
 cases ord with
 | none=>exact ⟨fun i hi=>⟨i,hi,rfl⟩,fun s t _ _ e=>e⟩
 | some l =>
  unfold Dr at h
  dsimp only at h
  rw [Bool.and_eq_true,Bool.and_eq_true,Bool.and_eq_true] at h
  have hl:=Nat.eq_of_beq_eq_true h.1
  refine ⟨fun i hi=>?_,fun s t hs ht e=>EN h.2.2.1 s t (by omega) (by omega) e⟩
  obtain ⟨j,h1,h2⟩:=M4 (Js h.2.1 i hi)
  exact ⟨j,by omega,h2⟩
theorem O7 {P:Program} {L:List Oper} {w0:World} {lD:List Nat} {l0:Fr} {B0:Bx} {Γ0:Gm} {n:Nat} {Q:Exit→Act→World→Prop} {cs:List Code} {ds:List Deferred} {full:Tr} {ord:Option (List Nat)}
  (hlen:full.length=L.length) (Zy:CK n L=true) (hperm:Dr ord L.length=true) (hlow:SL L.length (tabs L.toArray)=true) (Zz:EK lD (vU (tabs L.toArray) ord L.length L.length) lD 0=true) (ZA:SK lD l0 B0 Γ0 full full=true) (hok:EL P L w0 l0 B0 Γ0 ord full)
  (hV:HV P Q n ds w0 cs (uX l0 full) (SF B0 full) (E5 Γ0 full)) :
  ∀ (f M Mo:Nat),rem M L.length=f→(∀ t,t<L.length→M.testBit t=Mo.testBit (oi ord t))→Dwn (vU (tabs L.toArray) ord L.length L.length) M→∀ α γ w,Holds w0 (O5 M B0 full) (MU M Γ0 full) α γ w→G P L (fun _=>True) (Ks P Q cs) n ds f Mo (gI α γ (SG M l0 full)) w:=by
 obtain ⟨ZB,hinj⟩:=O6 hperm
 have hd:=lm (n:=n) (L:=L) (by unfold CK at Zy;rw [Bool.and_eq_true] at Zy;exact Zy.2)
 intro f
 induction f with
 | zero =>
  intro M Mo VO hR hDn α γ w hH a listed ha hL _
  have hall:=Jp VO
  have hb:∀ {X:Type} (f:It→X) j,j<(full.map f).length→tb M j=true:=fun f j hj=>by rw [jG];exact hall j (by rw [List.length_map,hlen] at hj;exact hj)
  refine ⟨?_,?_⟩
  · cases hr:Region.ready .any L.toArray listed with
    | nil=>rfl
    | cons j l =>
     obtain ⟨o,ho,h1,_⟩:=(lQ (n:=0) hL).1 (show j∈Region.ready .any L.toArray listed by rw [hr];exact List.mem_cons_self)
     have hlt:j<L.length:=by have:=(Array.getElem?_eq_some_iff.1 ho).1;simpa using this
     obtain ⟨t,ht1,ht2⟩:=ZB j hlt
     have h2:=hR t ht1
     rw [ht2,h1,hall t ht1] at h2;cases h2
  · have e1:SG M l0 full=uX l0 full:=yA (hb _)
    have e2:O5 M B0 full=SF B0 full:=yA (hb _)
    have e3:MU M Γ0 full=E5 Γ0 full:=yA (hb _)
    rw [e1] at ha;rw [e2,e3] at hH
    exact hV α γ w hH a ha
 | succ f ih =>
  intro M Mo VO hR hDn α γ w hH a listed ha hL _
  refine ⟨fun h0=>?_,fun i0 hi=>?_⟩
  · -- something is ready
    exfalso
    have hex:∃ j,j<L.length∧M.testBit j=false:=by
     refine Classical.byContradiction fun hn=>?_
     have:=MX (M:=M) (N:=L.length) fun j hj=>by
      cases hb:M.testBit j with
      | true=>rfl
      | false=>exact absurd ⟨j,hj,hb⟩ hn
     omega
    obtain ⟨j,⟨hj,hb⟩,hmin⟩:=least hex
    have hoj:oi ord j<L.length:=by
     refine Classical.byContradiction fun hn=>?_
     cases ord with
     | none=>exact hn hj
     | some l =>
      have h9:=hperm
      unfold Dr at h9
      dsimp only at h9
      rw [Bool.and_eq_true,Bool.and_eq_true,Bool.and_eq_true] at h9
      exact hn (Jr h9.2.2.2 j (by rw [Nat.eq_of_beq_eq_true h9.1];exact hj))
    have hjo:L.toArray[oi ord j]?=some L[oi ord j]:=by simp [hoj]
    have ht:=yh hjo
    have hA:=(Dl Zz j _ (uy hj)).2
    have hin:oi ord j∈Region.ready .any L.toArray listed:=(lQ (n:=0) hL).2 ⟨_,hjo,by rw [← hR j hj];exact hb,I7 fun k hk=>by
     have hk1:=M3 hlow _ _ ht k hk
     obtain ⟨s,hs1,hs2⟩:=ZB k hk1
     have hk':=hA s (zI.2 ⟨hs1,by unfold Jq;rw [ht,hs2];exact hk⟩)
     rw [Nat.zero_add] at hk'
     rw [← hs2,← hR s hs1]
     cases hkb:M.testBit s with
     | true=>rfl
     | false=>have:=hmin s ⟨hs1,hkb⟩;omega⟩
    rw [h0] at hin;cases hin
  · obtain ⟨o,ho,PO,hAM⟩:=(lQ (n:=0) hL).1 hi
    have hoi:nth L i0=some o:=by rw [qd,← List.getElem?_toArray];exact ho
    have hlt:i0<L.toArray.size:=(Array.getElem?_eq_some_iff.1 ho).1
    have hi0:i0<L.length:=by simpa using hlt
    obtain ⟨i,hiL,vV⟩:=ZB i0 hi0
    have hbi:M.testBit i=false:=by rw [hR i hiL,vV];exact PO
    have hiT:=uy (T:=tabs L.toArray) (ord:=ord) (n:=L.length) hiL
    have hAi:∀ k,(Al ord (Jq (tabs L.toArray) (oi ord i)) L.length).testBit k=true→M.testBit k=true:=fun k hk=>by
     obtain ⟨h1,h2⟩:=zI.1 hk
     rw [hR k h1]
     refine I6 hAM _ ?_
     unfold Jq at h2
     rw [vV,yh ho] at h2
     exact h2
    have acN:=MV Zz hDn i _ hiT hAi
    obtain ⟨it,hit⟩:=Xw (xs:=full) (j:=i) (by omega)
    obtain ⟨post,tr,Xx,htr,hIt⟩:=Jo hok i it hit
    obtain ⟨hc1,hc2⟩:=Bq ZA i it hit
    -- another operation that is ordered with i: before it it has come up, behind it it has not
    have Ov:∀ j jt,At full j jt→j≠i→yB lD i j=true→(j<i→M.testBit j=true)∧(i<j→M.testBit j=false):=by
     intro j jt hj hne ho
     unfold yB at ho
     refine ⟨fun hl=>?_,fun hl=>?_⟩
     · have e:Nat.blt j i=true:=by unfold Nat.blt;exact Nat.ble_eq_true_of_le hl
       rw [e] at ho
       exact acN j (by rw [← jG];exact ho)
     · have e:Nat.blt j i=false:=by
        cases hb:Nat.blt j i with
        | false=>rfl
        | true=>have:=Nat.le_of_ble_eq_true hb;omega
       rw [e] at ho
       cases hb:M.testBit j with
       | false=>rfl
       | true =>
        have hjL:j<L.length:=by have:=MQ hj;omega
        have:=MV Zz hDn j _ (uy hjL) (fun k hk=>hDn j _ (uy hjL) hb k hk) i (by rw [← jG];exact ho)
        rw [hbi] at this;cases this
    have SN:∀ j jt,At full j jt→i<j→tb (qh lD j) i=true→M.testBit j=false:=by
     intro j jt hj hl ho
     refine (Ov j jt hj (by omega) ?_).2 hl
     unfold yB
     have e:Nat.blt j i=false:=by
      cases hb:Nat.blt j i with
      | false=>rfl
      | true=>have:=Nat.le_of_ble_eq_true hb;omega
     rw [e];exact ho
    have Ao:∀ j jt,At full j jt→j≠i→_:=fun j jt hj hne=>EM (Gx hc1 j jt hj hne)
    -- slots, boxes and facts that i leans on
    have agree:∀ {A:Type} (base:List (Nat × A)) (kf:It→Option (Nat × A)) (t:Nat),(∀ j jt e,At full j jt→kf jt=some e→e.1=t→j≠i→yB lD i j=true)→wQ (sel M base (full.map kf)) t=wQ (Dj base (tr.map kf)) t:=by
     intro A base kf t hh
     have e1:full.map kf=(post.map kf++[kf it])++tr.map kf:=by rw [Xx];simp
     rw [e1,Dk,wR]
     · intro j e hj he
       obtain ⟨jt,h1,h2⟩:=pE hj
       have hjl:=MQ h1
       have h3:At full j jt:=by rw [Xx];exact EJ post (.inr h1)
       rw [jG]
       exact (Ov j jt h3 (by omega) (hh j jt e h3 h2 he (by omega))).1 (by omega)
     · intro j e hj hl he
       rw [← e1] at hj
       obtain ⟨jt,h1,h2⟩:=pE hj
       rw [List.length_map,htr] at hl
       rw [jG]
       by_cases hji:j=i
       · rw [hji];exact hbi
       · exact (Ov j jt h1 hji (hh j jt e h1 h2 he hji)).2 (by omega)
    have qM:vo (kI (uX l0 tr) it.rd) (SG M l0 full):=by
     intro t s hs
     obtain ⟨h1,h2⟩:=Gt hs
     rw [MS] at h2 ⊢
     rw [← h2]
     refine agree l0 It.kF t fun j jt e hj hk he hne=>?_
     exact (Ao j jt hj hne).1 t (by rw [← he];exact (K7 hk).1) h1
    have Xy:∀ b x,jU (A8 (SF B0 tr) it.acc) b=some x→jU (O5 M B0 full) b=some x:=by
     intro t s hs
     obtain ⟨h1,h2⟩:=Gv hs
     rw [Gs] at h2 ⊢
     rw [← h2]
     refine agree B0 It.bx t fun j jt e hj hk he hne=>?_
     obtain ⟨b,x⟩:=e
     dsimp only at he
     subst he
     exact (Ao j jt hj hne).2.2.1 b x hk h1
    have ZC:∀ j j' jt jt' g S S',At full j jt→At full j' jt'→jt.gh=some (g,S)→jt'.gh=some (g,S')→j=j':=by
     intro j j' jt jt' g S S' h1 h2 e1 e2
     refine Classical.byContradiction fun hne=>?_
     exact (EM (Gx (Bq ZA j jt h1).1 j' jt' h2 (fun e=>hne e.symm))).2.2.2.2.2.2.1 g S S' e1 e2
    have hbase:∀ j jt g S,At full j jt→jt.gh=some (g,S)→fresh g l0 B0 Γ0=true:=by
     intro j jt g S h1 e1
     have:=(Bq ZA j jt h1).2
     unfold MW at this
     rw [Bool.and_eq_true,e1] at this
     exact this.2
    have Xz:∀ g S,lW (qj (E5 Γ0 tr) it.gs) g=some S→lW (MU M Γ0 full) g=some S:=by
     intro t s hs
     obtain ⟨h1,h2⟩:=Gw hs
     rw [uw] at h2 ⊢
     rw [← h2]
     refine agree Γ0 It.gh t fun j jt e hj hk he hne=>?_
     obtain ⟨b,x⟩:=e
     dsimp only at he
     subst he
     exact (Ao j jt hj hne).2.2.2.2.2.2.2 b x hk h1
    have hHr:Holds w0 (A8 (SF B0 tr) it.acc) (qj (E5 Γ0 tr) it.gs) α γ w:=hH.sub Xy Xz
    have acO:Holds w0 [] (qj (E5 Γ0 tr) it.gs) α γ w:=hH.sub (fun b x h=>by cases h) Xz
    -- behind i
    have hbit:∀ j,tb (Nat.lor M (Nat.shiftLeft 1 i)) j=(tb M j||decide (j=i)):=fun j=>by rw [jG,jG,uU]
    have ZE:∀ {A:Type} (base:List (Nat × A)) (kf:It→Option (Nat × A)) (t:Nat),
      (∀ s,kf it=some (t,s)→(∀ j jt e,At full j jt→kf jt=some e→e.1=t→i<j→M.testBit j=false)→wQ (sel (Nat.lor M (Nat.shiftLeft 1 i)) base (full.map kf)) t=some s) ∧
      ((∀ s,kf it≠some (t,s))→wQ (sel (Nat.lor M (Nat.shiftLeft 1 i)) base (full.map kf)) t=wQ (sel M base (full.map kf)) t):=by
     intro A base kf t
     obtain ⟨h1,h2⟩:=MR (t:=t) (base:=base) hbit ((Gr kf).2 ⟨it,hit,rfl⟩)
     refine ⟨fun s hs hl=>h1 s hs fun j e hj hij he=>?_,h2⟩
     obtain ⟨jt,h3,h4⟩:=pE hj
     rw [jG];exact hl j jt e h3 h4 he hij
    have EO:∀ t,lk (SG (Nat.lor M (Nat.shiftLeft 1 i)) l0 full) t=(match it.d with | some d=>(match Nat.beq d t with | true=>some it.out | false=>lk (SG M l0 full) t) | none=>lk (SG M l0 full) t):=by
     intro t
     rw [MS,MS]
     obtain ⟨h1,h2⟩:=ZE l0 It.kF t
     cases hdd:it.d with
     | none=>exact h2 fun s hs=>by have:=(K7 hs).1;rw [hdd] at this;cases this
     | some d =>
      dsimp only
      cases hdt:Nat.beq d t with
      | true =>
       obtain rfl:=Nat.eq_of_beq_eq_true hdt
       refine h1 it.out (acM hdd) fun j jt e hj hk he hl=>?_
       exact (Ov j jt hj (by omega) ((Ao j jt hj (by omega)).2.1 d (by rw [← he];exact (K7 hk).1) hdd)).2 hl
      | false =>
       refine h2 fun s hs=>?_
       have:=(K7 hs).1
       rw [hdd] at this
       rw [Option.some.inj this,Nat.beq_refl] at hdt;cases hdt
    have ZF:∀ t,jU (O5 (Nat.lor M (Nat.shiftLeft 1 i)) B0 full) t=(match it.bx with | some (b,x)=>(match Nat.beq b t with | true=>some x | false=>jU (O5 M B0 full) t) | none=>jU (O5 M B0 full) t):=by
     intro t
     rw [Gs,Gs]
     obtain ⟨h1,h2⟩:=ZE B0 It.bx t
     cases hdd:it.bx with
     | none=>exact h2 fun s hs=>by rw [hdd] at hs;cases hs
     | some bx =>
      obtain ⟨b,x⟩:=bx
      dsimp only
      cases hdt:Nat.beq b t with
      | true =>
       obtain rfl:=Nat.eq_of_beq_eq_true hdt
       refine h1 x hdd fun j jt e hj hk he hl=>?_
       obtain ⟨b',y⟩:=e
       dsimp only at he
       subst he
       exact (Ov j jt hj (by omega) ((Ao j jt hj (by omega)).2.2.2.1 b' y x hk hdd)).2 hl
      | false =>
       refine h2 fun s hs=>?_
       rw [hdd] at hs
       cases hs
       rw [Nat.beq_refl] at hdt;cases hdt
    have ghK:∀ t,lW (MU (Nat.lor M (Nat.shiftLeft 1 i)) Γ0 full) t=(match it.gh with | some (b,x)=>(match Nat.beq b t with | true=>some x | false=>lW (MU M Γ0 full) t) | none=>lW (MU M Γ0 full) t):=by
     intro t
     rw [uw,uw]
     obtain ⟨h1,h2⟩:=ZE Γ0 It.gh t
     cases hdd:it.gh with
     | none=>exact h2 fun s hs=>by rw [hdd] at hs;cases hs
     | some bx =>
      obtain ⟨b,x⟩:=bx
      dsimp only
      cases hdt:Nat.beq b t with
      | true =>
       obtain rfl:=Nat.eq_of_beq_eq_true hdt
       refine h1 x hdd fun j jt e hj hk he hl=>?_
       obtain ⟨b',y⟩:=e
       dsimp only at he
       subst he
       have:=ZC j i jt it b' y x hj hit hk hdd
       omega
      | false =>
       refine h2 fun s hs=>?_
       rw [hdd] at hs
       cases hs
       rw [Nat.beq_refl] at hdt;cases hdt
    have Br:it.bx=none→∀ t,jU (O5 (Nat.lor M (Nat.shiftLeft 1 i)) B0 full) t=jU (O5 M B0 full) t:=fun e t=>by rw [ZF,e]
    have GG:it.gh=none→∀ t,lW (MU (Nat.lor M (Nat.shiftLeft 1 i)) Γ0 full) t=lW (MU M Γ0 full) t:=fun e t=>by rw [ghK,e]
    have afw:Dwn (vU (tabs L.toArray) ord L.length L.length) (Nat.lor M (Nat.shiftLeft 1 i)):=by
     intro j t hj hb k hk
     rw [uU,Bool.or_eq_true] at hb ⊢
     rcases hb with hb | hb
     · exact .inl (hDn j t hj hb k hk)
     · have e:=of_decide_eq_true hb
       subst e
       rw [hiT] at hj
       obtain rfl:=Option.some.inj hj
       exact .inl (hAi k hk)
    have acP:rem (Nat.lor M (Nat.shiftLeft 1 i)) L.length=f:=by have:=(MZ hbi (N:=L.length)).2 hiL;omega
    have hR':∀ t,t<L.length→(Nat.lor M (Nat.shiftLeft 1 i)).testBit t=(Nat.lor Mo (Nat.shiftLeft 1 i0)).testBit (oi ord t):=fun t ht=>by
     rw [uU,uU,hR t ht]
     congr 1
     by_cases e:t=i
     · rw [e,vV,decide_eq_true rfl,decide_eq_true rfl]
     · rw [decide_eq_false e,decide_eq_false (fun e2=>e (hinj t i ht hiL (by rw [e2,vV])))]
    refine Bp (k:=false) (m:=0) (K:=fun l' w'=>∃ α' γ',Holds w0 (O5 (Nat.lor M (Nat.shiftLeft 1 i)) B0 full) (MU (Nat.lor M (Nat.shiftLeft 1 i)) Γ0 full) α' γ' w'∧∀ t v,Go.Proofs.YtgcieamfidoaoaaGreatDoor.Pl.look (gI α' γ' (SG (Nat.lor M (Nat.shiftLeft 1 i)) l0 full)) t=some v→Go.Proofs.YtgcieamfidoaoaaGreatDoor.Pl.look l' t=some v)
     (hd i0 o · hoi) hoi ha trivial ?_ (fun a l w ha hS ⟨α',γ',h1,h2⟩=>ih _ _ acP hR' afw α' γ' w h1 a _ (ha.less h2) (hL.put hlt) trivial)
    have Jt:∀ (l:List (Nat × Value)) (d:Nat) (v:Value) (t:Nat),Go.Proofs.YtgcieamfidoaoaaGreatDoor.Pl.look ((d,v)::l) t=(match Nat.beq d t with | true=>some v | false=>Go.Proofs.YtgcieamfidoaoaaGreatDoor.Pl.look l t):=fun _ _ _ _=>rfl
    cases hIt with
    | skip o' d rd ho' hd' hg =>
     obtain rfl:=Option.some.inj (hoi.symm.trans (by rw [← vV];exact ho'))
     refine jP hoi hd' (gy (qM.jT hg) α γ) ⟨α,γ,(hH.congr (Br rfl)).zH (GG rfl),fun t v hv=>?_⟩
     rw [fJ,EO] at hv
     rw [Jt,fJ]
     dsimp only at hv
     cases hb:Nat.beq d t with
     | true=>rw [hb] at hv;exact hv
     | false=>rw [hb] at hv;exact hv
    | pure o' d s rd acc gs ho' hd' hg hr =>
     obtain rfl:=Option.some.inj (hoi.symm.trans (by rw [← vV];exact ho'))
     refine kP hoi hd' (gy (qM.jT hg) α γ) (fun ρ hρ=>hr α γ w hHr ρ (qM.cons hρ)) trivial ⟨α,γ,(hH.congr (Br rfl)).zH (GG rfl),fun t v hv=>?_⟩
     rw [fJ,EO] at hv
     rw [Jt,fJ]
     dsimp only at hv
     cases hb:Nat.beq d t with
     | true=>rw [hb] at hv;exact hv
     | false=>rw [hb] at hv;exact hv
    | new o' d k t cs' rd acc gs ho' hd' hg hk hr =>
     obtain rfl:=Option.some.inj (hoi.symm.trans (by rw [← vV];exact ho'))
     obtain ⟨w',hE,hC,hp,hrun⟩:=hr α γ w hHr
     have hb1:Da k l0=true∧AZ k B0=true:=by
      unfold MW at hc2
      rw [Bool.and_eq_true] at hc2
      have:=hc2.1
      dsimp only at this
      rwa [Bool.and_eq_true] at this
     have Ju:∀ j jt,At full j jt→tb M j=true→SH k jt=true:=by
      intro j jt hj hb
      have hne:j≠i:=fun e=>by rw [e,jG,hbi] at hb;cases hb
      rcases (Ao j jt hj hne).2.2.2.2.1 k rfl with h | ⟨h1,h2⟩
      · exact h
      · rw [jG,SN j jt hj h1 h2] at hb;cases hb
     have hnF:Da k (SG M l0 full)=true:=Dp hb1.1 fun j e hj hb=>by
      obtain ⟨jt,h1,h2⟩:=pE hj
      have:=Ju j jt h1 hb
      unfold SH at this
      rw [Bool.and_eq_true,(K7 h2).2] at this
      exact this.1
     have hnB:AZ k (O5 M B0 full)=true:=Dq hb1.2 fun j e hj hb=>by
      obtain ⟨jt,h1,h2⟩:=pE hj
      have:=Ju j jt h1 hb
      obtain ⟨b,t',c'⟩:=e
      unfold SH at this
      rw [Bool.and_eq_true,h2] at this
      have:=this.2
      dsimp only at this
      rwa [Bool.and_eq_true] at this
     have DF:=hH.new k w.heap.size t cs' hnB hk hE rfl hC hp
     refine kP hoi hd' (gy (qM.jT hg) α γ) (fun ρ hρ=>hrun ρ (qM.cons hρ)) trivial ⟨upd α k w.heap.size,γ,(DF.congr fun b=>?_).zH (GG rfl),fun q v hv=>?_⟩
     · rw [ZF];rfl
     · rw [fJ,EO] at hv
       rw [Jt]
       dsimp only at hv
       cases hb:Nat.beq d q with
       | true =>
        rw [hb] at hv
        dsimp only at hv
        rw [← hv]
        show some _=some (Value.pointer (some ⟨upd α k w.heap.size k,0,none⟩))
        rw [upd_same]
       | false =>
        rw [hb] at hv
        dsimp only
        rw [← uS (N:=w.heap.size) _ hnF,fJ];exact hv
    | put o' b t cs' rd acc gs s ho' hd' hg hr =>
     obtain rfl:=Option.some.inj (hoi.symm.trans (by rw [← vV];exact ho'))
     obtain ⟨w',old,hold,hX,hC,hp,hrun⟩:=hr α γ w hHr
     have DF:=hH.put b t old cs' (Xy _ _ hold) hX hC hp
     refine RJ hoi hd' (gy (qM.jT hg) α γ) (fun ρ hρ=>hrun ρ (qM.cons hρ)) trivial ⟨α,γ,(DF.congr fun q=>?_).zH (GG rfl),fun q v hv=>?_⟩
     · rw [ZF];rfl
     · rw [fJ,EO] at hv
       rw [fJ];exact hv
    | call o' d g S res rd gs f' y' fs cap xs ats ss ho' hop hd' hg hy hx hf BM =>
     obtain rfl:=Option.some.inj (hoi.symm.trans (by rw [← vV];exact ho'))
     obtain ⟨hb1,hb2,hb3⟩:=mM (hbase i _ g S hit rfl)
     have Ju:∀ j jt,At full j jt→tb M j=true→Jn g jt=true:=by
      intro j jt hj hb
      have hne:j≠i:=fun e=>by rw [e,jG,hbi] at hb;cases hb
      rcases (Ao j jt hj hne).2.2.2.2.2.1 g S rfl with h | ⟨h1,h2⟩
      · exact h
      · rw [jG,SN j jt hj h1 h2] at hb;cases hb
     have hnF:D8 g (SG M l0 full)=true:=yC hb1 fun j e hj hb=>by
      obtain ⟨jt,h1,h2⟩:=pE hj
      have:=Ju j jt h1 hb
      unfold Jn at this
      rw [Bool.and_eq_true,(K7 h2).2] at this
      exact this.1
     have hnB:Db g (O5 M B0 full)=true:=yD hb2 fun j e hj hb=>by
      obtain ⟨jt,h1,h2⟩:=pE hj
      have:=Ju j jt h1 hb
      obtain ⟨b,t',c'⟩:=e
      unfold Jn at this
      rw [Bool.and_eq_true,h2] at this
      exact this.2
     have hnG:lW (MU M Γ0 full) g=none:=by
      cases e:lW (MU M Γ0 full) g with
      | none=>rfl
      | some S' =>
       exfalso
       rw [uw] at e
       rcases Gz e with ⟨j,h1,h2⟩ | h
       · obtain ⟨jt,h3,h4⟩:=pE h1
         have:=ZC j i jt _ g S' S h3 hit h4 rfl
         rw [this,jG,hbi] at h2;cases h2
       · rw [uw,h] at hb3;cases hb3
     refine gY hoi hop hd' (gy (qM.jT hg) α γ) (FV.dK (Or.imp qM.ev (fun h=>⟨h.1,h.2.1,qM.ev h.2.2⟩) hy) α γ) (xz (qM.evs hx)) hf (Calls.mono (BM α γ w acO) ?_)
     rintro e w' ⟨F,hF,rfl,hR,hE⟩
     have hH1:=hH.ext hE
     have DF:=hH1.add g S F hnB hF (hR _ fun k hk=>⟨(hH.mE hk).1,(hH.mE hk).2.2⟩) hnG
     refine ⟨_,rfl,trivial,α,upd γ g F,(DF.congr (Br rfl)).zH fun q=>?_,fun q v hv=>?_⟩
     · rw [ghK];rfl
     · rw [fJ,EO] at hv
       rw [Jt]
       dsimp only at hv
       cases hb:Nat.beq d q with
       | true=>rw [hb] at hv;exact hv
       | false =>
        rw [hb] at hv
        dsimp only
        rw [← mO (F:=F) _ hnF,fJ];exact hv
    | eff o' d g S res rd gs ho' hd' hg BM =>
     obtain rfl:=Option.some.inj (hoi.symm.trans (by rw [← vV];exact ho'))
     obtain ⟨hb1,hb2,hb3⟩:=mM (hbase i _ g S hit rfl)
     have Ju:∀ j jt,At full j jt→tb M j=true→Jn g jt=true:=by
      intro j jt hj hb
      have hne:j≠i:=fun e=>by rw [e,jG,hbi] at hb;cases hb
      rcases (Ao j jt hj hne).2.2.2.2.2.1 g S rfl with h | ⟨h1,h2⟩
      · exact h
      · rw [jG,SN j jt hj h1 h2] at hb;cases hb
     have hnF:D8 g (SG M l0 full)=true:=yC hb1 fun j e hj hb=>by
      obtain ⟨jt,h1,h2⟩:=pE hj
      have:=Ju j jt h1 hb
      unfold Jn at this
      rw [Bool.and_eq_true,(K7 h2).2] at this
      exact this.1
     have hnB:Db g (O5 M B0 full)=true:=yD hb2 fun j e hj hb=>by
      obtain ⟨jt,h1,h2⟩:=pE hj
      have:=Ju j jt h1 hb
      obtain ⟨b,t',c'⟩:=e
      unfold Jn at this
      rw [Bool.and_eq_true,h2] at this
      exact this.2
     have hnG:lW (MU M Γ0 full) g=none:=by
      cases e:lW (MU M Γ0 full) g with
      | none=>rfl
      | some S' =>
       exfalso
       rw [uw] at e
       rcases Gz e with ⟨j,h1,h2⟩ | h
       · obtain ⟨jt,h3,h4⟩:=pE h1
         have:=ZC j i jt _ g S' S h3 hit h4 rfl
         rw [this,jG,hbi] at h2;cases h2
       · rw [uw,h] at hb3;cases hb3
     obtain ⟨F,w',hF,hrun,hR,hE⟩:=BM α γ w acO
     have hH1:=hH.ext hE
     have DF:=hH1.add g S F hnB hF (hR _ fun k hk=>⟨(hH.mE hk).1,(hH.mE hk).2.2⟩) hnG
     refine kP hoi hd' (gy (qM.jT hg) α γ) (fun ρ hρ=>hrun ρ (qM.cons hρ)) trivial ⟨α,upd γ g F,(DF.congr (Br rfl)).zH fun q=>?_,fun q v hv=>?_⟩
     · rw [ghK];rfl
     · rw [fJ,EO] at hv
       rw [Jt]
       dsimp only at hv
       cases hb:Nat.beq d q with
       | true=>rw [hb] at hv;exact hv
       | false =>
        rw [hb] at hv
        dsimp only
        rw [← mO (F:=F) _ hnF,fJ];exact hv
end Go.Proofs.YtgcieamfidoaoaaGreatDoor.Rf
