/- Base. -/
import Derived.Test.YtgcieamfidoaoaaGreatDoorGaf
set_option linter.all false
set_option maxHeartbeats 8000000
set_option maxRecDepth 100000
namespace Go.Proofs.YtgcieamfidoaoaaGreatDoor
namespace Rf
open Go Go.RowKit Pl
def rem (M:Nat):Nat→Nat
 | 0=>0
 | n+1=>rem M n+(if M.testBit n=true then 0 else 1)
theorem Nc {M:Nat}:∀ {N:Nat},rem M N=0→∀ j,j<N→M.testBit j=true
 | 0,_,j,h=>by omega
 | N+1,h,j,hj=>by
  unfold rem at h;by_cases hb:M.testBit N=true
  · rcases Nat.lt_or_ge j N with hl | hl
    · exact Nc (N:=N) (by omega) j hl
    · rw [show j=N by omega];exact hb
  · rw [if_neg hb] at h;omega
theorem Q5 {M:Nat}:∀ {N:Nat},(∀ j,j<N→M.testBit j=true)→rem M N=0
 | 0,_=>rfl
 | N+1,h=>by unfold rem;rw [Q5 (N:=N) fun j hj=>h j (by omega),if_pos (h N (by omega))]
theorem yE (M i j:Nat):(Nat.lor M (Nat.shiftLeft 1 i)).testBit j=(M.testBit j||decide (j=i)):=by have h2:(Nat.lor M (Nat.shiftLeft 1 i)).testBit j=(M.testBit j||(Nat.shiftLeft 1 i).testBit j):=Nat.testBit_or _ _ _;rw [h2,sO]
theorem Q6 {M i:Nat} (hi:M.testBit i=false):∀ {N:Nat},(N≤i→rem (Nat.lor M (Nat.shiftLeft 1 i)) N=rem M N)∧(i<N→rem (Nat.lor M (Nat.shiftLeft 1 i)) N+1=rem M N)
 | 0=>⟨fun _=>rfl,fun h=>by omega⟩
 | N+1=>by
  obtain ⟨h1,h2⟩:=Q6 hi (N:=N);unfold rem;rw [yE];refine ⟨fun h=>?_,fun h=>?_⟩
  · rw [h1 (by omega),decide_eq_false (show ¬ N=i by omega),Bool.or_false]
  · rcases Nat.lt_or_ge i N with hl | hl
    · have:=h2 hl;rw [decide_eq_false (show ¬ N=i by omega),Bool.or_false];omega
    · obtain rfl:N=i:=(by omega);rw [h1 (Nat.le_refl _),decide_eq_true rfl,Bool.or_true,if_pos rfl,hi,if_neg (by simp)]
theorem Holds.CY {w0:World} {B:Bx} {Γ Γ':Gm} {α:Env} {γ:l7} {w:World} (h:Holds w0 B Γ α γ w) (e:∀ g,lZ Γ' g=lZ Γ g):Holds w0 B Γ' α γ w:=⟨h.ex,h.box,h.inj,h.sc,fun g S hg=>h.fact g S (by rw [← e];exact hg)⟩
section
variable {A:Type}
theorem KP {M g:Nat} {s:A} {base:List (Nat × A)}:∀ {xs:List (Option (Nat × A))},zF (sel M base xs) g=some s→(∃ j,At xs j (some (g,s))∧tb M j=true)∨zF base g=some s
 | [],h=>.inr h
 | none::xs,h=>by
  rcases KP (xs:=xs) h with ⟨j,h1,h2⟩ | h
  · exact .inl ⟨j,.inr h1,h2⟩
  · exact .inr h
 | some (d,u)::xs,h=>by
  have key:zF (sel M base xs) g=some s→(∃ j,At (some (d,u)::xs) j (some (g,s))∧tb M j=true)∨zF base g=some s:=fun h=>by
   rcases KP (xs:=xs) h with ⟨j,h1,h2⟩ | h
   · exact .inl ⟨j,.inr h1,h2⟩
   · exact .inr h
  simp only [sel] at h;cases hb:tb M xs.length with
  | false=>rw [hb] at h;exact key h
  | true =>
   rw [hb] at h;simp only [zF] at h;cases hd:Nat.beq d g with
   | true =>rw [hd] at h;obtain rfl:=Nat.eq_of_beq_eq_true hd;obtain rfl:=Option.some.inj h;exact .inl ⟨xs.length,.inl ⟨rfl,rfl⟩,hb⟩
   | false=>rw [hd] at h;exact key h
end
theorem G7 {M k:Nat} {l0:Fr} (h0:GM k l0=true):∀ {xs:List (Option (Nat × SV))},(∀ j e,At xs j (some e)→tb M j=true→noP k e.2=true)→GM k (sel M l0 xs)=true
 | [],_=>h0
 | none::xs,h=>G7 h0 (xs:=xs) fun j e hj=>h j e (.inr hj)
 | some (d,s)::xs,h=>by
  have ih:=G7 h0 (xs:=xs) fun j e hj=>h j e (.inr hj);simp only [sel];cases hb:tb M xs.length with
  | false=>exact ih
  | true =>show (noP k s&&GM k _)=true;rw [ih,h xs.length (d,s) (.inl ⟨rfl,rfl⟩) hb];rfl
theorem BN {M k:Nat} {l0:Fr} (h0:Io k l0=true):∀ {xs:List (Option (Nat × SV))},(∀ j e,At xs j (some e)→tb M j=true→noG k e.2=true)→Io k (sel M l0 xs)=true
 | [],_=>h0
 | none::xs,h=>BN h0 (xs:=xs) fun j e hj=>h j e (.inr hj)
 | some (d,s)::xs,h=>by
  have ih:=BN h0 (xs:=xs) fun j e hj=>h j e (.inr hj);simp only [sel];cases hb:tb M xs.length with
  | false=>exact ih
  | true =>show (noG k s&&Io k _)=true;rw [ih,h xs.length (d,s) (.inl ⟨rfl,rfl⟩) hb];rfl
theorem G8 {M k:Nat} {B0:Bx} (h0:D9 k B0=true):∀ {xs:List (Option (Nat × TypeId × List SV))},(∀ j e,At xs j (some e)→tb M j=true→(!(Nat.beq e.1 k))=true∧uJ k e.2.2=true)→D9 k (sel M B0 xs)=true
 | [],_=>h0
 | none::xs,h=>G8 h0 (xs:=xs) fun j e hj=>h j e (.inr hj)
 | some (b,t,cs)::xs,h=>by
  have ih:=G8 h0 (xs:=xs) fun j e hj=>h j e (.inr hj);simp only [sel];cases hb:tb M xs.length with
  | false=>exact ih
  | true =>obtain ⟨h1,h2⟩:=h xs.length (b,t,cs) (.inl ⟨rfl,rfl⟩) hb;show (!(Nat.beq b k)&&uJ k cs&&D9 k _)=true;rw [ih];dsimp only at h1 h2;rw [h1,h2];rfl
theorem BO {M k:Nat} {B0:Bx} (h0:GN k B0=true):∀ {xs:List (Option (Nat × TypeId × List SV))},(∀ j e,At xs j (some e)→tb M j=true→zD k e.2.2=true)→GN k (sel M B0 xs)=true
 | [],_=>h0
 | none::xs,h=>BO h0 (xs:=xs) fun j e hj=>h j e (.inr hj)
 | some (b,t,cs)::xs,h=>by
  have ih:=BO h0 (xs:=xs) fun j e hj=>h j e (.inr hj);simp only [sel];cases hb:tb M xs.length with
  | false=>exact ih
  | true =>show (zD k cs&&GN k _)=true;rw [ih,h xs.length (b,t,cs) (.inl ⟨rfl,rfl⟩) hb];rfl
theorem rU {X:Type} {f:It→Option X} {full:Tr} {j:Nat} {e:X} (h:At (full.map f) j (some e)):∃ jt,At full j jt∧f jt=some e:=by obtain ⟨jt,h1,h2⟩:=(KH f).1 h;grind
theorem Pj {it:It} {e:Nat × SV} (h:it.kF=some e):it.d=some e.1∧it.out=e.2:=by
 obtain ⟨d,s,rd,acc,gs,bx,nw,gh⟩:=it;cases d with
 | none=>cases h
 | some d=>obtain rfl:=Option.some.inj h;exact ⟨rfl,rfl⟩
theorem agD {it:It} {d:Nat} (h:it.d=some d):it.kF=some (d,it.out):=by obtain ⟨d',s,rd,acc,gs,bx,nw,gh⟩:=it;subst h;rfl
theorem Jl {mX:List Nat} {i j:Nat} {it jt:It} (h:pair mX i it j jt=true) :(∀ d,jt.d=some d→d∈it.rd→BM mX i j=true)∧(∀ d,jt.d=some d→it.d=some d→BM mX i j=true)∧(∀ b x,jt.bx=some (b,x)→b∈it.acc→BM mX i j=true) ∧(∀ b x y,jt.bx=some (b,x)→it.bx=some (b,y)→BM mX i j=true)∧(∀ k,it.nw=some k→XB k jt=true∨(i<j∧tb (tC mX j) i=true)) ∧(∀ g S,it.gh=some (g,S)→M7 g jt=true∨(i<j∧tb (tC mX j) i=true))∧(∀ g S S',it.gh=some (g,S)→jt.gh=some (g,S')→False)∧(∀ g S,jt.gh=some (g,S)→g∈it.gs→BM mX i j=true):=by
 unfold pair at h;simp only [Bool.and_eq_true] at h;obtain ⟨h1,h2,h3,h4,h5,h6,h7,h8⟩:=h;refine ⟨fun d hd hm=>?_,fun d hd he=>?_,fun b x hb hm=>?_,fun b x y hb hi=>?_,fun k hk=>?_,fun g S hg=>?_,fun g S S' hg hj=>?_,fun g S hg hm=>?_⟩
 · rw [hd] at h1;simpa [mem_iff hm] using h1
 · simp_all
 · rw [hb] at h3;simpa [mem_iff hm] using h3
 · simp_all
 · simp_all
 · simp_all
 · simp_all
 · rw [hg] at h8;simpa [mem_iff hm] using h8
def DK (ord:Option (List Nat)) (A:Nat):Nat→Nat
 | 0=>0
 | j+1=>match tb A (oi ord j) with
  | true=>Nat.lor (DK ord A j) (Nat.shiftLeft 1 j)
  | false=>DK ord A j
theorem CZ {ord:Option (List Nat)} {A k:Nat}:∀ {n:Nat},(DK ord A n).testBit k=true↔k<n∧A.testBit (oi ord k)=true
 | 0=>by simp [DK]
 | n + 1=>by
  have ih:=CZ (ord:=ord) (A:=A) (k:=k) (n:=n);unfold DK;cases hb:tb A (oi ord n) with
  | true =>
   dsimp only;rw [yE,Bool.or_eq_true,ih,decide_eq_true_eq];rw [kV] at hb;constructor
   · rintro (⟨h1,h2⟩ | rfl)
     · exact ⟨by omega,h2⟩
     · exact ⟨by omega,hb⟩
   · rintro ⟨h1,h2⟩;rcases Nat.lt_or_ge k n with h | h
     · exact .inl ⟨h,h2⟩
     · exact .inr (by omega)
  | false =>
   dsimp only;rw [ih];rw [kV] at hb;constructor
   · rintro ⟨h1,h2⟩;exact ⟨by omega,h2⟩
   · rintro ⟨h1,h2⟩;refine ⟨?_,h2⟩;rcases Nat.lt_or_ge k n with h | h
     · exact h
     · exfalso;rw [show k=n by omega,hb] at h2;cases h2
def Nh (T:List Tb) (i:Nat):Nat:=match T[i]? with
 | some t=>t.A
 | none=>0
def yS (T:List Tb) (ord:Option (List Nat)) (n:Nat):Nat→List Nat
 | 0=>[]
 | j+1=>yS T ord n j++[DK ord (Nh T (oi ord j)) n]
theorem yF {T:List Tb} {ord:Option (List Nat)} {n:Nat}:∀ j,(yS T ord n j).length=j
 | 0=>rfl
 | j+1=>by unfold yS;rw [List.length_append,yF j];rfl
theorem xV {T:List Tb} {ord:Option (List Nat)} {n i:Nat}:∀ {j:Nat},i<j→(yS T ord n j)[i]?=some (DK ord (Nh T (oi ord i)) n)
 | 0,h=>by omega
 | j+1,h=>by
  unfold yS;rcases Nat.lt_or_ge i j with hl | hl
  · rw [List.getElem?_append_left (by rw [yF];exact hl)];exact xV hl
  · obtain rfl:i=j:=(by omega);rw [List.getElem?_append_right (by rw [yF];exact Nat.le_refl _),yF,Nat.sub_self];rfl
def allIn (l:List Nat):Nat→Bool
 | 0=>true
 | n+1=>mem n l&&allIn l n
def nodup:List Nat→Bool
 | []=>true
 | x::l=>!(mem x l)&&nodup l
def Q7:List Nat→Nat→Bool
 | [],_=>true
 | x::l,n=>Nat.blt x n&&Q7 l n
theorem Ni {n:Nat}:∀ {l:List Nat},Q7 l n=true→∀ j,j<l.length→tC l j<n
 | x::l,h,j,hj=>by
  unfold Q7 at h;rw [Bool.and_eq_true] at h;cases j with
  | zero=>exact Nat.lt_of_lt_of_le (Nat.lt_succ_self x) (Nat.le_of_ble_eq_true h.1)
  | succ j=>exact Ni h.2 j (by simp at hj;omega)
def G9 (ord:Option (List Nat)) (n:Nat):Bool:=match ord with
 | none=>true
 | some l=>Nat.beq l.length n&&(allIn l n&&(nodup l&&Q7 l n))
def XE (n:Nat):List Tb→Bool
 | []=>true
 | t::ts=>Nat.beq (Nat.shiftRight t.A n) 0&&XE n ts
theorem Q8 {n:Nat}:∀ {ts:List Tb},XE n ts=true→∀ (j:Nat) (t:Tb),ts[j]?=some t→∀ k,t.A.testBit k=true→k<n
 | [],_,j,t,h,_,_=>by simp at h
 | x :: ts,h,j,t,hj,k,hk=>by
  unfold XE at h;rw [Bool.and_eq_true] at h;cases j with
  | zero =>
   obtain rfl:x=t:=(by simpa using hj);have h0:x.A >>> n=0:=Nat.eq_of_beq_eq_true h.1;rcases Nat.lt_or_ge k n with hl | hl
   · exact hl
   · exfalso;have:(x.A >>> n).testBit (k-n)=true:=(by rw [Nat.testBit_shiftRight,show n+(k-n)=k by omega];exact hk);rw [h0,Nat.zero_testBit] at this;cases this
  | succ j=>exact Q8 h.2 j t (by simpa using hj) k hk
theorem Q9 {x:Nat}:∀ {l:List Nat},mem x l=true→∃ j,j<l.length∧tC l j=x
 | [],h=>by cases h
 | y::l,h=>by
  unfold mem at h;rw [Bool.or_eq_true] at h;rcases h with h | h
  · exact ⟨0,by simp,Nat.eq_of_beq_eq_true h⟩
  · obtain ⟨j,h1,h2⟩:=Q9 h;exact ⟨j+1,by simp;omega,h2⟩
theorem Ra:∀ {l:List Nat} {j:Nat},j<l.length→tC l j∈l
 | y::l,0,_=>List.mem_cons_self
 | y::l,j+1,h=>List.mem_cons_of_mem _ (Ra (by simp at h;omega))
theorem Jm:∀ {l:List Nat},nodup l=true→∀ i j,i<l.length→j<l.length→tC l i=tC l j→i=j
 | [],_,i,_,h,_,_=>by simp at h
 | x::l,h,i,j,hi,hj,e=>by
  unfold nodup at h;rw [Bool.and_eq_true] at h;have hx:∀ q,q<l.length→tC l q≠x:=fun q hq e=>by have:=mem_iff (Ra hq);rw [e] at this;rw [this] at h;exact absurd h.1 (by simp)
  cases i with
  | zero=>cases j with
   | zero=>rfl
   | succ j=>exact absurd e.symm (hx j (by simp at hj;omega))
  | succ i=>cases j with
   | zero=>exact absurd e (hx i (by simp at hi;omega))
   | succ j=>rw [Jm h.2 i j (by simp at hi;omega) (by simp at hj;omega) e]
theorem Nj {l:List Nat}:∀ {n:Nat},allIn l n=true→∀ i,i<n→mem i l=true
 | n+1,h,i,hi=>by
  unfold allIn at h;rw [Bool.and_eq_true] at h;rcases Nat.lt_or_ge i n with hl | hl
  · exact Nj h.2 i hl
  · rw [show i=n by omega];exact h.1
theorem Tm {ord:Option (List Nat)} {n:Nat} (h:G9 ord n=true):(∀ i,i<n→∃ t,t<n∧oi ord t=i)∧∀ s t,s<n→t<n→oi ord s=oi ord t→s=t:=by
 cases ord with
 | none=>exact ⟨fun i hi=>⟨i,hi,rfl⟩,fun s t _ _ e=>e⟩
 | some l =>unfold G9 at h;rw [Bool.and_eq_true,Bool.and_eq_true,Bool.and_eq_true] at h;have hl:=Nat.eq_of_beq_eq_true h.1;refine ⟨fun i hi=>?_,fun s t hs ht e=>Jm h.2.2.1 s t (by omega) (by omega) e⟩;obtain ⟨j,h1,h2⟩:=Q9 (Nj h.2.1 i hi);exact ⟨j,by omega,h2⟩
theorem Tn {P:Program} {L:List Oper} {w0:World} {mX:List Nat} {l0:Fr} {B0:Bx} {Γ0:Gm} {n:Nat} {Q:Exit→Act→World→Prop} {cs:List Code} {ds:List Deferred} {full:Tr} {ord:Option (List Nat)} (hlen:full.length=L.length) (ads:Gr n L=true) (hperm:G9 ord L.length=true) (hlow:XE L.length (tabs L.toArray)=true) (adt:Jj mX (yS (tabs L.toArray) ord L.length L.length) mX 0=true) (adu:XD mX l0 B0 Γ0 full full=true) (hok:Jk P L w0 l0 B0 Γ0 ord full) (hV:HV P Q n ds w0 cs (vS l0 full) (Xz B0 full) (Eg Γ0 full)) :∀ (f M Mo:Nat),rem M L.length=f→(∀ t,t<L.length→M.testBit t=Mo.testBit (oi ord t))→Dwn (yS (tabs L.toArray) ord L.length L.length) M→∀ α γ w,Holds w0 (Tk M B0 full) (Q0 M Γ0 full) α γ w→G P L (fun _=>True) (Ks P Q cs) n ds f Mo (iI α γ (XA M l0 full)) w:=by
 obtain ⟨adv,hinj⟩:=Tm hperm;have hd:=mU (n:=n) (L:=L) (by unfold Gr at ads;rw [Bool.and_eq_true] at ads;exact ads.2);intro f;induction f with
 | zero =>
  intro M Mo aao hR hDn α γ w hH a listed ha hL _;have hall:=Nc aao;have hb:∀ {X:Type} (f:It→X) j,j<(full.map f).length→tb M j=true:=fun f j hj=>by rw [kV];exact hall j (by rw [List.length_map,hlen] at hj;exact hj)
  refine ⟨?_,?_⟩
  · cases hr:Region.ready .any L.toArray listed with
    | nil=>rfl
    | cons j l =>obtain ⟨o,ho,h1,_⟩:=(nH (n:=0) hL).1 (show j∈Region.ready .any L.toArray listed by rw [hr];exact List.mem_cons_self);have hlt:j<L.length:=(by have:=(Array.getElem?_eq_some_iff.1 ho).1;simpa using this);obtain ⟨t,ht1,ht2⟩:=adv j hlt;have h2:=hR t ht1;rw [ht2,h1,hall t ht1] at h2;cases h2
  · have e1:XA M l0 full=vS l0 full:=BL (hb _);have e2:Tk M B0 full=Xz B0 full:=BL (hb _);have e3:Q0 M Γ0 full=Eg Γ0 full:=BL (hb _);rw [e1] at ha;rw [e2,e3] at hH;exact hV α γ w hH a ha
 | succ f ih =>
  intro M Mo aao hR hDn α γ w hH a listed ha hL _;refine ⟨fun h0=>?_,fun i0 hi=>?_⟩
  · -- something is ready
    exfalso
    have hex:∃ j,j<L.length∧M.testBit j=false:=by
     refine Classical.byContradiction fun hn=>?_
     have:=Q5 (M:=M) (N:=L.length) fun j hj=>by
      cases hb:M.testBit j with
      | true=>rfl
      | false=>exact absurd ⟨j,hj,hb⟩ hn
     omega
    obtain ⟨j,⟨hj,hb⟩,hmin⟩:=least hex
    have hoj:oi ord j<L.length:=by
     refine Classical.byContradiction fun hn=>?_;cases ord with
     | none=>exact hn hj
     | some l =>have h9:=hperm;unfold G9 at h9;dsimp only at h9;rw [Bool.and_eq_true,Bool.and_eq_true,Bool.and_eq_true] at h9;exact hn (Ni h9.2.2.2 j (by rw [Nat.eq_of_beq_eq_true h9.1];exact hj))
    have hjo:L.toArray[oi ord j]?=some L[oi ord j]:=(by simp [hoj]);have ht:=BA hjo;have hA:=(G5 adt j _ (xV hj)).2
    have hin:oi ord j∈Region.ready .any L.toArray listed:=(nH (n:=0) hL).2 ⟨_,hjo,by rw [← hR j hj];exact hb,MN fun k hk=>by
     have hk1:=Q8 hlow _ _ ht k hk;obtain ⟨s,hs1,hs2⟩:=adv k hk1;have hk':=hA s (CZ.2 ⟨hs1,by unfold Nh;rw [ht,hs2];exact hk⟩);rw [Nat.zero_add] at hk';rw [← hs2,← hR s hs1];cases hkb:M.testBit s with
     | true=>rfl
     | false=>have:=hmin s ⟨hs1,hkb⟩;omega⟩
    rw [h0] at hin;cases hin
  · obtain ⟨o,ho,T9,hAM⟩:=(nH (n:=0) hL).1 hi;have hoi:nth L i0=some o:=(by rw [tq,← List.getElem?_toArray];exact ho);have hlt:i0<L.toArray.size:=(Array.getElem?_eq_some_iff.1 ho).1;have hi0:i0<L.length:=(by simpa using hlt);obtain ⟨i,hiL,yT⟩:=adv i0 hi0;have hbi:M.testBit i=false:=(by rw [hR i hiL,yT];exact T9);have hiT:=xV (T:=tabs L.toArray) (ord:=ord) (n:=L.length) hiL;have hAi:∀ k,(DK ord (Nh (tabs L.toArray) (oi ord i)) L.length).testBit k=true→M.testBit k=true:=fun k hk=>by obtain ⟨h1,h2⟩:=CZ.1 hk;rw [hR k h1];refine MM hAM _ ?_;unfold Nh at h2;rw [yT,BA ho] at h2;exact h2
    have agE:=Q3 adt hDn i _ hiT hAi;obtain ⟨it,hit⟩:=abB (xs:=full) (j:=i) (by omega);obtain ⟨post,tr,abC,htr,hIt⟩:=M8 hok i it hit;obtain ⟨hc1,hc2⟩:=Ew adu i it hit
    -- another operation that is ordered with i: before it it has come up, behind it it has not
    have Sr:∀ j jt,At full j jt→j≠i→BM mX i j=true→(j<i→M.testBit j=true)∧(i<j→M.testBit j=false):=by
     intro j jt hj hne ho;unfold BM at ho;refine ⟨fun hl=>?_,fun hl=>?_⟩
     · have e:Nat.blt j i=true:=(by unfold Nat.blt;exact Nat.ble_eq_true_of_le hl);rw [e] at ho;exact agE j (by rw [← kV];exact ho)
     · have e:Nat.blt j i=false:=by
        cases hb:Nat.blt j i with
        | false=>rfl
        | true=>have:=Nat.le_of_ble_eq_true hb;omega
       rw [e] at ho;cases hb:M.testBit j with
       | false=>rfl
       | true =>have hjL:j<L.length:=(by have:=QX hj;omega);have:=Q3 adt hDn j _ (xV hjL) (fun k hk=>hDn j _ (xV hjL) hb k hk) i (by rw [← kV];exact ho);rw [hbi] at this;cases this
    have XF:∀ j jt,At full j jt→i<j→tb (tC mX j) i=true→M.testBit j=false:=by
     intro j jt hj hl ho;refine (Sr j jt hj (by omega) ?_).2 hl;unfold BM
     have e:Nat.blt j i=false:=by
      cases hb:Nat.blt j i with
      | false=>rfl
      | true=>have:=Nat.le_of_ble_eq_true hb;omega
     rw [e];exact ho
    have DL:∀ j jt,At full j jt→j≠i→_:=fun j jt hj hne=>Jl (KN hc1 j jt hj hne)
    -- slots, boxes and facts that i leans on
    have agree:∀ {A:Type} (base:List (Nat × A)) (kf:It→Option (Nat × A)) (t:Nat),(∀ j jt e,At full j jt→kf jt=some e→e.1=t→j≠i→BM mX i j=true)→zF (sel M base (full.map kf)) t=zF (GY base (tr.map kf)) t:=by
     intro A base kf t hh;have e1:full.map kf=(post.map kf++[kf it])++tr.map kf:=(by rw [abC];simp);rw [e1,GZ,zG]
     · intro j e hj he;obtain ⟨jt,h1,h2⟩:=rU hj;have hjl:=QX h1;have h3:At full j jt:=(by rw [abC];exact Ji post (.inr h1));rw [kV];exact (Sr j jt h3 (by omega) (hh j jt e h3 h2 he (by omega))).1 (by omega)
     · intro j e hj hl he;rw [← e1] at hj;obtain ⟨jt,h1,h2⟩:=rU hj;rw [List.length_map,htr] at hl;rw [kV];by_cases hji:j=i
       · rw [hji];exact hbi
       · exact (Sr j jt h1 hji (hh j jt e h1 h2 he hji)).2 (by omega)
    have uL:vX (kX (vS l0 tr) it.rd) (XA M l0 full):=(by intro t s hs;obtain ⟨h1,h2⟩:=KJ hs;rw [QZ] at h2 ⊢;rw [← h2];refine agree l0 It.kF t fun j jt e hj hk he hne=>?_;exact (DL j jt hj hne).1 t (by rw [← he];exact (Pj hk).1) h1);have abD:∀ b x,kP (Ea (Xz B0 tr) it.acc) b=some x→kP (Tk M B0 full) b=some x:=(by intro t s hs;obtain ⟨h1,h2⟩:=KL hs;rw [KI] at h2 ⊢;rw [← h2];refine agree B0 It.bx t fun j jt e hj hk he hne=>?_;obtain ⟨b,x⟩:=e;dsimp only at he;subst he;exact (DL j jt hj hne).2.2.1 b x hk h1);have adw:∀ j j' jt jt' g S S',At full j jt→At full j' jt'→jt.gh=some (g,S)→jt'.gh=some (g,S')→j=j':=(by intro j j' jt jt' g S S' h1 h2 e1 e2;refine Classical.byContradiction fun hne=>?_;exact (Jl (KN (Ew adu j jt h1).1 j' jt' h2 (fun e=>hne e.symm))).2.2.2.2.2.2.1 g S S' e1 e2);have hbase:∀ j jt g S,At full j jt→jt.gh=some (g,S)→fresh g l0 B0 Γ0=true:=(by intro j jt g S h1 e1;have:=(Ew adu j jt h1).2;unfold Q4 at this;rw [Bool.and_eq_true,e1] at this;exact this.2);have abE:∀ g S,lZ (qb (Eg Γ0 tr) it.gs) g=some S→lZ (Q0 M Γ0 full) g=some S:=(by intro t s hs;obtain ⟨h1,h2⟩:=KM hs;rw [xU] at h2 ⊢;rw [← h2];refine agree Γ0 It.gh t fun j jt e hj hk he hne=>?_;obtain ⟨b,x⟩:=e;dsimp only at he;subst he;exact (DL j jt hj hne).2.2.2.2.2.2.2 b x hk h1);have hHr:Holds w0 (Ea (Xz B0 tr) it.acc) (qb (Eg Γ0 tr) it.gs) α γ w:=hH.sub abD abE;have agF:Holds w0 [] (qb (Eg Γ0 tr) it.gs) α γ w:=hH.sub (fun b x h=>by cases h) abE
    -- behind i
    have hbit:∀ j,tb (Nat.lor M (Nat.shiftLeft 1 i)) j=(tb M j||decide (j=i)):=fun j=>by rw [kV,kV,yE]
    have adx:∀ {A:Type} (base:List (Nat × A)) (kf:It→Option (Nat × A)) (t:Nat),
      (∀ s,kf it=some (t,s)→(∀ j jt e,At full j jt→kf jt=some e→e.1=t→i<j→M.testBit j=false)→zF (sel (Nat.lor M (Nat.shiftLeft 1 i)) base (full.map kf)) t=some s) ∧
      ((∀ s,kf it≠some (t,s))→zF (sel (Nat.lor M (Nat.shiftLeft 1 i)) base (full.map kf)) t=zF (sel M base (full.map kf)) t):=by
     intro A base kf t;obtain ⟨h1,h2⟩:=QY (t:=t) (base:=base) hbit ((KH kf).2 ⟨it,hit,rfl⟩);refine ⟨fun s hs hl=>h1 s hs fun j e hj hij he=>?_,h2⟩;obtain ⟨jt,h3,h4⟩:=rU hj;rw [kV];exact hl j jt e h3 h4 he hij
    have Jn:∀ t,lk (XA (Nat.lor M (Nat.shiftLeft 1 i)) l0 full) t=(match it.d with | some d=>(match Nat.beq d t with | true=>some it.out | false=>lk (XA M l0 full) t) | none=>lk (XA M l0 full) t):=by
     intro t;rw [QZ,QZ];obtain ⟨h1,h2⟩:=adx l0 It.kF t;cases hdd:it.d with
     | none=>exact h2 fun s hs=>by have:=(Pj hs).1;rw [hdd] at this;cases this
     | some d =>
      dsimp only;cases hdt:Nat.beq d t with
      | true =>obtain rfl:=Nat.eq_of_beq_eq_true hdt;refine h1 it.out (agD hdd) fun j jt e hj hk he hl=>?_;exact (Sr j jt hj (by omega) ((DL j jt hj (by omega)).2.1 d (by rw [← he];exact (Pj hk).1) hdd)).2 hl
      | false =>refine h2 fun s hs=>?_;have:=(Pj hs).1;rw [hdd] at this;rw [Option.some.inj this,Nat.beq_refl] at hdt;cases hdt
    have ady:∀ t,kP (Tk (Nat.lor M (Nat.shiftLeft 1 i)) B0 full) t=(match it.bx with | some (b,x)=>(match Nat.beq b t with | true=>some x | false=>kP (Tk M B0 full) t) | none=>kP (Tk M B0 full) t):=by
     intro t;rw [KI,KI];obtain ⟨h1,h2⟩:=adx B0 It.bx t;cases hdd:it.bx with
     | none=>exact h2 fun s hs=>by rw [hdd] at hs;cases hs
     | some bx =>
      obtain ⟨b,x⟩:=bx;dsimp only;cases hdt:Nat.beq b t with
      | true =>obtain rfl:=Nat.eq_of_beq_eq_true hdt;refine h1 x hdd fun j jt e hj hk he hl=>?_;obtain ⟨b',y⟩:=e;dsimp only at he;subst he;exact (Sr j jt hj (by omega) ((DL j jt hj (by omega)).2.2.2.1 b' y x hk hdd)).2 hl
      | false =>refine h2 fun s hs=>?_;rw [hdd] at hs;cases hs;rw [Nat.beq_refl] at hdt;cases hdt
    have ghK:∀ t,lZ (Q0 (Nat.lor M (Nat.shiftLeft 1 i)) Γ0 full) t=(match it.gh with | some (b,x)=>(match Nat.beq b t with | true=>some x | false=>lZ (Q0 M Γ0 full) t) | none=>lZ (Q0 M Γ0 full) t):=by
     intro t;rw [xU,xU];obtain ⟨h1,h2⟩:=adx Γ0 It.gh t;cases hdd:it.gh with
     | none=>exact h2 fun s hs=>by rw [hdd] at hs;cases hs
     | some bx =>
      obtain ⟨b,x⟩:=bx;dsimp only;cases hdt:Nat.beq b t with
      | true =>obtain rfl:=Nat.eq_of_beq_eq_true hdt;refine h1 x hdd fun j jt e hj hk he hl=>?_;obtain ⟨b',y⟩:=e;dsimp only at he;subst he;have:=adw j i jt it b' y x hj hit hk hdd;omega
      | false =>refine h2 fun s hs=>?_;rw [hdd] at hs;cases hs;rw [Nat.beq_refl] at hdt;cases hdt
    have Ex:it.bx=none→∀ t,kP (Tk (Nat.lor M (Nat.shiftLeft 1 i)) B0 full) t=kP (Tk M B0 full) t:=fun e t=>by rw [ady,e]
    have KQ:it.gh=none→∀ t,lZ (Q0 (Nat.lor M (Nat.shiftLeft 1 i)) Γ0 full) t=lZ (Q0 M Γ0 full) t:=fun e t=>by rw [ghK,e]
    have ajq:Dwn (yS (tabs L.toArray) ord L.length L.length) (Nat.lor M (Nat.shiftLeft 1 i)):=by
     intro j t hj hb k hk;rw [yE,Bool.or_eq_true] at hb ⊢;rcases hb with hb | hb
     · exact .inl (hDn j t hj hb k hk)
     · have e:=of_decide_eq_true hb;subst e;rw [hiT] at hj;obtain rfl:=Option.some.inj hj;exact .inl (hAi k hk)
    have agG:rem (Nat.lor M (Nat.shiftLeft 1 i)) L.length=f:=by have:=(Q6 hbi (N:=L.length)).2 hiL;omega
    have hR':∀ t,t<L.length→(Nat.lor M (Nat.shiftLeft 1 i)).testBit t=(Nat.lor Mo (Nat.shiftLeft 1 i0)).testBit (oi ord t):=fun t ht=>by
     rw [yE,yE,hR t ht];congr 1;by_cases e:t=i
     · rw [e,yT,decide_eq_true rfl,decide_eq_true rfl]
     · rw [decide_eq_false e,decide_eq_false (fun e2=>e (hinj t i ht hiL (by rw [e2,yT])))]
    refine Eu (k:=false) (m:=0) (K:=fun l' w'=>∃ α' γ',Holds w0 (Tk (Nat.lor M (Nat.shiftLeft 1 i)) B0 full) (Q0 (Nat.lor M (Nat.shiftLeft 1 i)) Γ0 full) α' γ' w'∧∀ t v,Go.Proofs.YtgcieamfidoaoaaGreatDoor.Pl.look (iI α' γ' (XA (Nat.lor M (Nat.shiftLeft 1 i)) l0 full)) t=some v→Go.Proofs.YtgcieamfidoaoaaGreatDoor.Pl.look l' t=some v)
     (hd i0 o · hoi) hoi ha trivial ?_ (fun a l w ha hS ⟨α',γ',h1,h2⟩=>ih _ _ agG hR' ajq α' γ' w h1 a _ (ha.less h2) (hL.put hlt) trivial)
    have Nk:∀ (l:List (Nat × Value)) (d:Nat) (v:Value) (t:Nat),Go.Proofs.YtgcieamfidoaoaaGreatDoor.Pl.look ((d,v)::l) t=(match Nat.beq d t with | true=>some v | false=>Go.Proofs.YtgcieamfidoaoaaGreatDoor.Pl.look l t):=fun _ _ _ _=>rfl;cases hIt with
    | skip o' d rd ho' hd' hg =>
     obtain rfl:=Option.some.inj (hoi.symm.trans (by rw [← yT];exact ho'));refine Kb hoi hd' (jc (uL.lJ hg) α γ) ⟨α,γ,(hH.congr (Ex rfl)).CY (KQ rfl),fun t v hv=>?_⟩;rw [iC,Jn] at hv;rw [Nk,iC];dsimp only at hv;cases hb:Nat.beq d t with
     | true=>rw [hb] at hv;exact hv
     | false=>rw [hb] at hv;exact hv
    | pure o' d s rd acc gs ho' hd' hg hr =>
     obtain rfl:=Option.some.inj (hoi.symm.trans (by rw [← yT];exact ho'));refine l8 hoi hd' (jc (uL.lJ hg) α γ) (fun ρ hρ=>hr α γ w hHr ρ (uL.cons hρ)) trivial ⟨α,γ,(hH.congr (Ex rfl)).CY (KQ rfl),fun t v hv=>?_⟩;rw [iC,Jn] at hv;rw [Nk,iC];dsimp only at hv;cases hb:Nat.beq d t with
     | true=>rw [hb] at hv;exact hv
     | false=>rw [hb] at hv;exact hv
    | new o' d k t cs' rd acc gs ho' hd' hg hk hr =>
     obtain rfl:=Option.some.inj (hoi.symm.trans (by rw [← yT];exact ho'));obtain ⟨w',hE,hC,hp,hrun⟩:=hr α γ w hHr;have hb1:GM k l0=true∧D9 k B0=true:=by unfold Q4 at hc2;rw [Bool.and_eq_true] at hc2;have:=hc2.1;dsimp only at this;rwa [Bool.and_eq_true] at this
     have Nt:∀ j jt,At full j jt→tb M j=true→XB k jt=true:=by
      intro j jt hj hb;have hne:j≠i:=fun e=>by rw [e,kV,hbi] at hb;cases hb
      rcases (DL j jt hj hne).2.2.2.2.1 k rfl with h | ⟨h1,h2⟩
      · exact h
      · rw [kV,XF j jt hj h1 h2] at hb;cases hb
     have hnF:GM k (XA M l0 full)=true:=G7 hb1.1 fun j e hj hb=>by obtain ⟨jt,h1,h2⟩:=rU hj;have:=Nt j jt h1 hb;unfold XB at this;rw [Bool.and_eq_true,(Pj h2).2] at this;exact this.1
     have hnB:D9 k (Tk M B0 full)=true:=G8 hb1.2 fun j e hj hb=>by obtain ⟨jt,h1,h2⟩:=rU hj;have:=Nt j jt h1 hb;obtain ⟨b,t',c'⟩:=e;unfold XB at this;rw [Bool.and_eq_true,h2] at this;have:=this.2;dsimp only at this;rwa [Bool.and_eq_true] at this
     have Eh:=hH.new k w.heap.size t cs' hnB hk hE rfl hC hp;refine l8 hoi hd' (jc (uL.lJ hg) α γ) (fun ρ hρ=>hrun ρ (uL.cons hρ)) trivial ⟨upd α k w.heap.size,γ,(Eh.congr fun b=>?_).CY (KQ rfl),fun q v hv=>?_⟩
     · rw [ady];rfl
     · rw [iC,Jn] at hv;rw [Nk];dsimp only at hv;cases hb:Nat.beq d q with
       | true =>rw [hb] at hv;dsimp only at hv;rw [← hv];show some _=some (Value.pointer (some ⟨upd α k w.heap.size k,0,none⟩));rw [upd_same]
       | false =>rw [hb] at hv;dsimp only;rw [← yC (N:=w.heap.size) _ hnF,iC];exact hv
    | put o' b t cs' rd acc gs s ho' hd' hg hr =>
     obtain rfl:=Option.some.inj (hoi.symm.trans (by rw [← yT];exact ho'));obtain ⟨w',old,hold,hX,hC,hp,hrun⟩:=hr α γ w hHr;have Eh:=hH.put b t old cs' (abD _ _ hold) hX hC hp;refine WL hoi hd' (jc (uL.lJ hg) α γ) (fun ρ hρ=>hrun ρ (uL.cons hρ)) trivial ⟨α,γ,(Eh.congr fun q=>?_).CY (KQ rfl),fun q v hv=>?_⟩
     · rw [ady];rfl
     · rw [iC,Jn] at hv;rw [iC];exact hv
    | call o' d g S res rd gs f' y' fs cap xs ats ss ho' hop hd' hg hy hx hf DY =>
     obtain rfl:=Option.some.inj (hoi.symm.trans (by rw [← yT];exact ho'));obtain ⟨hb1,hb2,hb3⟩:=oC (hbase i _ g S hit rfl)
     have Nt:∀ j jt,At full j jt→tb M j=true→M7 g jt=true:=by
      intro j jt hj hb;have hne:j≠i:=fun e=>by rw [e,kV,hbi] at hb;cases hb
      rcases (DL j jt hj hne).2.2.2.2.2.1 g S rfl with h | ⟨h1,h2⟩
      · exact h
      · rw [kV,XF j jt hj h1 h2] at hb;cases hb
     have hnF:Io g (XA M l0 full)=true:=BN hb1 fun j e hj hb=>by obtain ⟨jt,h1,h2⟩:=rU hj;have:=Nt j jt h1 hb;unfold M7 at this;rw [Bool.and_eq_true,(Pj h2).2] at this;exact this.1
     have hnB:GN g (Tk M B0 full)=true:=BO hb2 fun j e hj hb=>by obtain ⟨jt,h1,h2⟩:=rU hj;have:=Nt j jt h1 hb;obtain ⟨b,t',c'⟩:=e;unfold M7 at this;rw [Bool.and_eq_true,h2] at this;exact this.2
     have hnG:lZ (Q0 M Γ0 full) g=none:=by
      cases e:lZ (Q0 M Γ0 full) g with
      | none=>rfl
      | some S' =>
       exfalso;rw [xU] at e;rcases KP e with ⟨j,h1,h2⟩ | h
       · obtain ⟨jt,h3,h4⟩:=rU h1;have:=adw j i jt _ g S' S h3 hit h4 rfl;rw [this,kV,hbi] at h2;cases h2
       · rw [xU,h] at hb3;cases hb3
     refine iT hoi hop hd' (jc (uL.lJ hg) α γ) (FV.fO (Or.imp uL.ev (fun h=>⟨h.1,h.2.1,uL.ev h.2.2⟩) hy) α γ) (Ae (uL.evs hx)) hf (Calls.mono (DY α γ w agF) ?_);rintro e w' ⟨F,hF,rfl,hR,hE⟩;have hH1:=hH.ext hE;have Eh:=hH1.add g S F hnB hF (hR _ fun k hk=>⟨(hH.oq hk).1,(hH.oq hk).2.2⟩) hnG;refine ⟨_,rfl,trivial,α,upd γ g F,(Eh.congr (Ex rfl)).CY fun q=>?_,fun q v hv=>?_⟩
     · rw [ghK];rfl
     · rw [iC,Jn] at hv;rw [Nk];dsimp only at hv;cases hb:Nat.beq d q with
       | true=>rw [hb] at hv;exact hv
       | false =>rw [hb] at hv;dsimp only;rw [← oD (F:=F) _ hnF,iC];exact hv
    | eff o' d g S res rd gs ho' hd' hg DY =>
     obtain rfl:=Option.some.inj (hoi.symm.trans (by rw [← yT];exact ho'));obtain ⟨hb1,hb2,hb3⟩:=oC (hbase i _ g S hit rfl)
     have Nt:∀ j jt,At full j jt→tb M j=true→M7 g jt=true:=by
      intro j jt hj hb;have hne:j≠i:=fun e=>by rw [e,kV,hbi] at hb;cases hb
      rcases (DL j jt hj hne).2.2.2.2.2.1 g S rfl with h | ⟨h1,h2⟩
      · exact h
      · rw [kV,XF j jt hj h1 h2] at hb;cases hb
     have hnF:Io g (XA M l0 full)=true:=BN hb1 fun j e hj hb=>by obtain ⟨jt,h1,h2⟩:=rU hj;have:=Nt j jt h1 hb;unfold M7 at this;rw [Bool.and_eq_true,(Pj h2).2] at this;exact this.1
     have hnB:GN g (Tk M B0 full)=true:=BO hb2 fun j e hj hb=>by obtain ⟨jt,h1,h2⟩:=rU hj;have:=Nt j jt h1 hb;obtain ⟨b,t',c'⟩:=e;unfold M7 at this;rw [Bool.and_eq_true,h2] at this;exact this.2
     have hnG:lZ (Q0 M Γ0 full) g=none:=by
      cases e:lZ (Q0 M Γ0 full) g with
      | none=>rfl
      | some S' =>
       exfalso;rw [xU] at e;rcases KP e with ⟨j,h1,h2⟩ | h
       · obtain ⟨jt,h3,h4⟩:=rU h1;have:=adw j i jt _ g S' S h3 hit h4 rfl;rw [this,kV,hbi] at h2;cases h2
       · rw [xU,h] at hb3;cases hb3
     obtain ⟨F,w',hF,hrun,hR,hE⟩:=DY α γ w agF;have hH1:=hH.ext hE;have Eh:=hH1.add g S F hnB hF (hR _ fun k hk=>⟨(hH.oq hk).1,(hH.oq hk).2.2⟩) hnG;refine l8 hoi hd' (jc (uL.lJ hg) α γ) (fun ρ hρ=>hrun ρ (uL.cons hρ)) trivial ⟨α,upd γ g F,(Eh.congr (Ex rfl)).CY fun q=>?_,fun q v hv=>?_⟩
     · rw [ghK];rfl
     · rw [iC,Jn] at hv;rw [Nk];dsimp only at hv;cases hb:Nat.beq d q with
       | true=>rw [hb] at hv;exact hv
       | false =>rw [hb] at hv;dsimp only;rw [← oD (F:=F) _ hnF,iC];exact hv
