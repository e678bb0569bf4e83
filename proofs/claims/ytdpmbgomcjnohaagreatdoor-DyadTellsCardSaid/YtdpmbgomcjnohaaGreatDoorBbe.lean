/- Cut and Round. -/
import Derived.Test.YtdpmbgomcjnohaaGreatDoorBaz
import Derived.Test.YtdpmbgomcjnohaaGreatDoorBbd

namespace Go.Proofs.YtdpmbgomcjnohaaGreatDoor
open Go.RowKit Rf
set_option linter.all false
set_option maxRecDepth 100000
set_option maxHeartbeats 8000000
theorem Rz {n d:Int} {j K:Nat} (h:Sz n K) (hd:0<d):Sz (Dy.jT j ((n:Rat)/(d:Rat))) (K+1):=by
 have h1:Sz (n/d) K:=Sz.div h
 have h2:Sz (1:Int) 1:=Sz.lit (by decide) (by decide)
 rcases Dy.yA j ((n:Rat)/(d:Rat)) with e | e
 · rw [e,Dy.iU hd];exact h1.le (by omega)
 · rw [e]
   unfold Dy.cl
   rw [show -((n:Rat)/(d:Rat))=(((-n:Int):Rat)/(d:Rat)) by rw [Rat.intCast_neg,Rat.div_def,Rat.div_def,Rat.neg_mul],Dy.iU hd]
   exact (Sz.neg (Sz.div (Sz.neg h))).le (by omega)
def U7:Rf.Spec where
 P X w f:=∃ Na Nb,f 0 = .pointer (some ⟨Na,0,none⟩)∧f 1 = .pointer (some ⟨Nb,0,none⟩)∧¬ X Na∧¬ X Nb∧Pl.Cb w Na 90 [.func (.func 118) #[] #[]]∧Pl.Cb w Nb 90 [.func (.func 119) #[] #[]]
 keep:=fun ⟨Na,Nb,h1,h2,h3,h4,h5,h6⟩ _ hk _ _=>⟨Na,Nb,h1,h2,h3,h4,(hk Na (Pl.Cb.lt h5) h3).trans h5,(hk Nb (Pl.Cb.lt h6) h4).trans h6⟩
 grow:=fun ⟨Na,Nb,h1,h2,h3,h4,h5,h6⟩ hY _=>⟨Na,Nb,h1,h2,fun h=>(hY Na h).elim h3 (fun h9=>by have:=Pl.Cb.lt h5;omega),fun h=>(hY Nb h).elim h4 (fun h9=>by have:=Pl.Cb.lt h6;omega),h5,h6⟩
theorem He (w:World) (va:Value) (q:Rat) (n z:Int) (L M:Nat) (ha:Qn w va q L M) (hz:z<0∨5≤z) :
  Calls Tryz.prog 39 #[va,.int .i64 n,.int .i64 z] w fun e w'=>e = .returned (.tuple #[.agg #[.bool false,.slice none 0 0,.int .i64 0],.int .i64 1])∧Pl.Ex w w':=by
 obtain ⟨Aa,ca,Ba,ba,rfl,ua,ta,za,ya⟩:=ha
 refine Rf.bQ (n:=40) [.a [.c 0 0,.c 0 1,.c 0 2],.v (.int .i64 n),.v (.int .i64 z)] [[.bool (decide (Rat.num q<0)),.slice Aa (limbs (Rat.num q).natAbs).length ca,.slice Ba (limbs (Rat.den q)).length ba]] [(0,(l7 q L M).S)] Tryz.func39 rfl (by kernel_rfl) rfl rfl ⟨RS.in ⟨Aa,ca,Ba,ba,rfl,ua,ta,za,ya⟩,trivial⟩ ?_
 repeat refine Rf.aa ?_
 refine Rf.az (by kernel_rfl) ?_
 refine Rf.aD aK 0 rfl ?_
 refine Rf.aI ?_
 repeat refine Rf.aa ?_
 refine Rf.az (by kernel_rfl) ?_
 refine Rf.xI 1 (U7) (.a [.f 120 [] [],.f 121 [] [],.f 122 [] [.c 1 0],.f 123 [] [.c 1 0],.f 124 [] [.c 1 1]]) rfl rfl rfl rfl rfl rfl (fun u X=>Pl.enters Tryz.func85 (by kernel_rfl) rfl u X) (fun α γ w h=>Calls.mono (qW _) fun e w' ⟨Na,Nb,he,ka,kb,hE⟩=>⟨tZ [.pointer (some ⟨Na,0,none⟩),.pointer (some ⟨Nb,0,none⟩)],dI rfl,by rw [he];simp only [den,bU,upd_same];rfl,⟨Na,Nb,rfl,rfl,oW (h.ext hE) rfl ka,oW (h.ext hE) rfl kb,ka,kb⟩,hE⟩) ?_
 refine Rf.aD aK 2 rfl ?_
 refine Rf.aI ?_
 repeat refine Rf.aa ?_
 refine Rf.az (by kernel_rfl) ?_
 refine Rf.aD aK 3 rfl ?_
 refine Rf.ji (p:=z<0) (yf _ _) rfl rfl rfl rfl rfl rfl (fun c1=>?_) (fun c1=>?_)
 · refine Rf.aD aK 3 rfl ?_
   refine Rf.aI ?_
   repeat refine Rf.aa ?_
   refine Rf.eU rfl ?_
   repeat refine Rf.aa ?_
   refine Rf.az (by kernel_rfl) ?_
   refine Rf.Ee (.a [.v (.bool false),.v (.slice none 0 0),.v (.int .i64 0)]) rfl rfl rfl (fun _ _=>rfl) (fun α γ X=>by kernel_rfl) ?_
   refine Rf.aD aK 3 rfl ?_
   refine Rf.aI ?_
   repeat refine Rf.aa ?_
   exact Rf.bI aK (fun _ _ h=>h) rfl rfl (fun α γ w h=>⟨rfl,h.ex⟩)
 · refine Rf.aD aK 3 rfl ?_
   refine Rf.iw (v:=.bool true) (fun X=>iP (by omega) X) rfl rfl rfl rfl rfl rfl ?_
   refine Rf.aD aK 3 rfl ?_
   refine Rf.aI ?_
   repeat refine Rf.aa ?_
   refine Rf.eU rfl ?_
   repeat refine Rf.aa ?_
   refine Rf.az (by kernel_rfl) ?_
   refine Rf.Ee (.a [.v (.bool false),.v (.slice none 0 0),.v (.int .i64 0)]) rfl rfl rfl (fun _ _=>rfl) (fun α γ X=>by kernel_rfl) ?_
   refine Rf.aD aK 3 rfl ?_
   refine Rf.aI ?_
   repeat refine Rf.aa ?_
   exact Rf.bI aK (fun _ _ h=>h) rfl rfl (fun α γ w h=>⟨rfl,h.ex⟩)
theorem fV (w:World) (hg:Gt w) (va:Value) (q:Rat) (n:Int) (j:Nat) (hj:j<5) (L M J:Nat) (ha:Qn w va q L M) (hL:L+M+J≤900) (hn : -(32*(J:Int))≤n∧n≤32*(J:Int)) (lo2 hi2:Int) (h1:lo2 ≤ -n) (h2 : -n+32*(L+J+1:Nat)≤hi2) (h3:lo2≤0) (h4:0≤hi2) :
  Calls Tryz.prog 39 #[va,.int .i64 n,.int .i64 ((j:Nat):Int)] w fun e w'=>∃ u,e = .returned (.tuple #[u,.int .i64 0])∧Dn w' u (Dy.cut j q n) (L+J+1) lo2 hi2∧Pl.Ex w w':=by
 obtain ⟨Aa,ca,Ba,ba,rfl,ua,ta,za,ya⟩:=ha
 have NU:Sz (shl q.num (max n 0)) (L+J):=jF (j:=J) za (by omega) (Nat.le_refl _)
 have RA:Sz (shl (q.den:Int) (max (-n) 0)) (M+J):=jF (j:=J) (Sn.sz ya) (by omega) (Nat.le_refl _)
 have NV:0<shl (q.den:Int) (max (-n) 0):=Dy.wV (by have:=q.den_pos;omega) (by omega)
 have lr:=Rz (j:=j) NU NV
 rw [show ((shl (Rat.num q) (max n 0):Int):Rat)/((shl ((Rat.den q:Nat):Int) (max (-n) 0):Int):Rat)=q*2^n from Dy.qm q n] at lr
 refine Rf.bQ (n:=40) [.a [.c 0 0,.c 0 1,.c 0 2],.v (.int .i64 n),.v (.int .i64 ((j:Nat):Int))] [[.bool (decide (Rat.num q<0)),.slice Aa (limbs (Rat.num q).natAbs).length ca,.slice Ba (limbs (Rat.den q)).length ba]] [(0,(l7 q L M).S)] Tryz.func39 rfl (by kernel_rfl) rfl rfl ⟨RS.in ⟨Aa,ca,Ba,ba,rfl,ua,ta,za,ya⟩,trivial⟩ ?_
 repeat refine Rf.aa ?_
 refine Rf.az (by kernel_rfl) ?_
 refine Rf.aD aK 0 rfl ?_
 refine Rf.aI ?_
 repeat refine Rf.aa ?_
 refine Rf.az (by kernel_rfl) ?_
 refine Rf.xI 1 (U7) (.a [.f 120 [] [],.f 121 [] [],.f 122 [] [.c 1 0],.f 123 [] [.c 1 0],.f 124 [] [.c 1 1]]) rfl rfl rfl rfl rfl rfl (fun u X=>Pl.enters Tryz.func85 (by kernel_rfl) rfl u X) (fun α γ w h=>Calls.mono (qW _) fun e w' ⟨Na,Nb,he,ka,kb,hE⟩=>⟨tZ [.pointer (some ⟨Na,0,none⟩),.pointer (some ⟨Nb,0,none⟩)],dI rfl,by rw [he];simp only [den,bU,upd_same];rfl,⟨Na,Nb,rfl,rfl,oW (h.ext hE) rfl ka,oW (h.ext hE) rfl kb,ka,kb⟩,hE⟩) ?_
 refine Rf.aD aK 2 rfl ?_
 refine Rf.aI ?_
 repeat refine Rf.aa ?_
 refine Rf.az (by kernel_rfl) ?_
 refine Rf.aD aK 3 rfl ?_
 refine Rf.iw (v:=.bool false) (fun X=>jG (by omega) X) rfl rfl rfl rfl rfl rfl ?_
 refine Rf.aD aK 3 rfl ?_
 refine Rf.iw (v:=.bool false) (fun X=>jm (by omega) X) rfl rfl rfl rfl rfl rfl ?_
 refine Rf.aD aK 3 rfl ?_
 refine Rf.aI ?_
 repeat refine Rf.aa ?_
 refine Rf.eP rfl ?_
 repeat refine Rf.aa ?_
 refine Rf.dZ ?_
 repeat refine Rf.aa ?_
 refine Rf.bM none fo ?_
 refine Rf.aO aK 16 3 rfl ?_
 refine Rf.aao rfl rfl rfl rfl rfl rfl rfl rfl ?_
 refine Rf.aB 2 _ _ rfl rfl rfl rfl rfl rfl rfl rfl rfl (fun u X=>Pl.enters Tryz.func65 (by kernel_rfl) rfl u X) (fun α γ w h=>dx 2 (kH _ _ (Rat.num q) (max n 0) (bH (h.r 0 rfl)).1 (Nat.le_trans za (by omega)) (by omega) (by omega) (shl (Rat.num q) (max n 0)) rfl)) ?_
 refine Rf.aO aK 16 3 rfl ?_
 refine Rf.aB 3 _ _ rfl rfl rfl rfl rfl rfl rfl rfl rfl (fun u X=>Pl.enters Tryz.func86 (by kernel_rfl) rfl u X) (fun α γ w h=>dx 3 (ow _ false _ _ (bH (h.r 0 rfl)).2.2.1 _ (aH _) _ rfl)) ?_
 refine Rf.aO aK 16 3 rfl ?_
 refine Rf.oI (.int .i64 (-n)) rfl rfl rfl rfl rfl rfl rfl (fun X=>eH (by omega) X) ?_
 refine Rf.aao rfl rfl rfl rfl rfl rfl rfl rfl ?_
 refine Rf.aB 4 _ _ rfl rfl rfl rfl rfl rfl rfl rfl rfl (fun u X=>Pl.enters Tryz.func65 (by kernel_rfl) rfl u X) (fun α γ w h=>dx 4 (kH _ _ ((Rat.den q:Nat):Int) (max (-n) 0) (h.r 3 rfl) (Nat.le_trans (Sn.sz ya) (by omega)) (by omega) (by omega) (shl ((Rat.den q:Nat):Int) (max (-n) 0)) rfl)) ?_
 refine Rf.aO aK 16 3 rfl ?_
 refine Rf.dQ (by kernel_rfl) ?_
 refine Rf.bN [1,2,6,7,8,9,10] [1,2,3,4] [1,2,4] rfl rfl rfl ?_
 repeat refine Rf.aa ?_
 rcases (show j=0∨j=1∨j=2∨j=3∨j=4 by omega) with rfl | rfl | rfl | rfl | rfl
 · repeat refine Rf.aa ?_
   refine Rf.bM none fo ?_
   refine Rf.aO aK 11 5 rfl ?_
   refine Rf.lN (j:=0) (q':=0) (s:=1) Tryz.underlying93 (by kernel_rfl) rfl (by decide) rfl rfl rfl rfl rfl rfl rfl rfl rfl ?_
   refine Rf.aO aK 11 5 rfl ?_
   refine Rf.mh [1,2,4] 5 (rA (Dy.jT 0 (q*2^n))) (.a [.c 5 0,.c 5 1]) rfl rfl rfl rfl rfl rfl rfl rfl (fun u X=>Pl.enters Tryz.func87 (by kernel_rfl) rfl u X) (fun α γ w h=>by obtain ⟨Na,Nb,e1,e2,-,-,ka,kb⟩:=h.fact 1 _ rfl;show Calls _ _ #[.agg #[.func (.func 120) #[] #[]],.agg #[γ 2 0,γ 2 1],.agg #[γ 4 0,γ 4 1]] _ _;exact dx 5 (by have h9:=gX _ 0 (by decide) Na Nb ka kb _ _ (shl (Rat.num q) (max n 0)) (shl ((Rat.den q:Nat):Int) (max (-n) 0)) (h.r 2 rfl) (h.r 4 rfl) (L+J) (M+J) NU RA (by omega) (by omega) NV;rw [show ((shl (Rat.num q) (max n 0):Int):Rat)/((shl ((Rat.den q:Nat):Int) (max (-n) 0):Int):Rat)=q*2^n from Dy.qm q n] at h9;exact h9)) ?_
   refine Rf.aO aK 11 5 rfl ?_
   refine Rf.oI (.int .i64 (-n)) rfl rfl rfl rfl rfl rfl rfl (fun X=>eH (by omega) X) ?_
   refine Rf.aB 6 _ _ rfl rfl rfl rfl rfl rfl rfl rfl rfl (fun u X=>Pl.enters Tryz.func18 (by kernel_rfl) rfl u X) (fun α γ w h=>qc 6 (dD _ (hg.ext h.ex) _ (Dy.jT 0 (q*2^n)) (-n) (h.r 5 rfl) (L+J+1) lr (by omega) (by omega) lo2 hi2 (by omega) (by omega) (by omega) (by omega))) ?_
   refine Rf.aO aK 11 5 rfl ?_
   refine Rf.dQ (by kernel_rfl) ?_
   refine Rf.bN [6,7] [1] [6] rfl rfl rfl ?_
   repeat refine Rf.aa ?_
   exact Rf.bI aK (fun _ _ h=>h) rfl rfl (fun α γ w h=>⟨_,rfl,(h.r 6 rfl),h.ex⟩)
 · repeat refine Rf.aa ?_
   refine Rf.bM none fo ?_
   refine Rf.aO aK 11 5 rfl ?_
   refine Rf.lN (j:=1) (q':=1) (s:=1) Tryz.underlying93 (by kernel_rfl) rfl (by decide) rfl rfl rfl rfl rfl rfl rfl rfl rfl ?_
   refine Rf.aO aK 11 5 rfl ?_
   refine Rf.mh [1,2,4] 5 (rA (Dy.jT 1 (q*2^n))) (.a [.c 5 0,.c 5 1]) rfl rfl rfl rfl rfl rfl rfl rfl (fun u X=>Pl.enters Tryz.func87 (by kernel_rfl) rfl u X) (fun α γ w h=>by obtain ⟨Na,Nb,e1,e2,-,-,ka,kb⟩:=h.fact 1 _ rfl;show Calls _ _ #[.agg #[.func (.func 121) #[] #[]],.agg #[γ 2 0,γ 2 1],.agg #[γ 4 0,γ 4 1]] _ _;exact dx 5 (by have h9:=gX _ 1 (by decide) Na Nb ka kb _ _ (shl (Rat.num q) (max n 0)) (shl ((Rat.den q:Nat):Int) (max (-n) 0)) (h.r 2 rfl) (h.r 4 rfl) (L+J) (M+J) NU RA (by omega) (by omega) NV;rw [show ((shl (Rat.num q) (max n 0):Int):Rat)/((shl ((Rat.den q:Nat):Int) (max (-n) 0):Int):Rat)=q*2^n from Dy.qm q n] at h9;exact h9)) ?_
   refine Rf.aO aK 11 5 rfl ?_
   refine Rf.oI (.int .i64 (-n)) rfl rfl rfl rfl rfl rfl rfl (fun X=>eH (by omega) X) ?_
   refine Rf.aB 6 _ _ rfl rfl rfl rfl rfl rfl rfl rfl rfl (fun u X=>Pl.enters Tryz.func18 (by kernel_rfl) rfl u X) (fun α γ w h=>qc 6 (dD _ (hg.ext h.ex) _ (Dy.jT 1 (q*2^n)) (-n) (h.r 5 rfl) (L+J+1) lr (by omega) (by omega) lo2 hi2 (by omega) (by omega) (by omega) (by omega))) ?_
   refine Rf.aO aK 11 5 rfl ?_
   refine Rf.dQ (by kernel_rfl) ?_
   refine Rf.bN [6,7] [1] [6] rfl rfl rfl ?_
   repeat refine Rf.aa ?_
   exact Rf.bI aK (fun _ _ h=>h) rfl rfl (fun α γ w h=>⟨_,rfl,(h.r 6 rfl),h.ex⟩)
 · repeat refine Rf.aa ?_
   refine Rf.bM none fo ?_
   refine Rf.aO aK 11 5 rfl ?_
   refine Rf.lN (j:=2) (q':=2) (s:=1) Tryz.underlying93 (by kernel_rfl) rfl (by decide) rfl rfl rfl rfl rfl rfl rfl rfl rfl ?_
   refine Rf.aO aK 11 5 rfl ?_
   refine Rf.mh [1,2,4] 5 (rA (Dy.jT 2 (q*2^n))) (.a [.c 5 0,.c 5 1]) rfl rfl rfl rfl rfl rfl rfl rfl (fun u X=>Pl.enters Tryz.func87 (by kernel_rfl) rfl u X) (fun α γ w h=>by obtain ⟨Na,Nb,e1,e2,-,-,ka,kb⟩:=h.fact 1 _ rfl;show Calls _ _ #[.agg #[.func (.func 122) #[] #[γ 1 0]],.agg #[γ 2 0,γ 2 1],.agg #[γ 4 0,γ 4 1]] _ _;rw [e1];exact dx 5 (by have h9:=gX _ 2 (by decide) Na Nb ka kb _ _ (shl (Rat.num q) (max n 0)) (shl ((Rat.den q:Nat):Int) (max (-n) 0)) (h.r 2 rfl) (h.r 4 rfl) (L+J) (M+J) NU RA (by omega) (by omega) NV;rw [show ((shl (Rat.num q) (max n 0):Int):Rat)/((shl ((Rat.den q:Nat):Int) (max (-n) 0):Int):Rat)=q*2^n from Dy.qm q n] at h9;exact h9)) ?_
   refine Rf.aO aK 11 5 rfl ?_
   refine Rf.oI (.int .i64 (-n)) rfl rfl rfl rfl rfl rfl rfl (fun X=>eH (by omega) X) ?_
   refine Rf.aB 6 _ _ rfl rfl rfl rfl rfl rfl rfl rfl rfl (fun u X=>Pl.enters Tryz.func18 (by kernel_rfl) rfl u X) (fun α γ w h=>qc 6 (dD _ (hg.ext h.ex) _ (Dy.jT 2 (q*2^n)) (-n) (h.r 5 rfl) (L+J+1) lr (by omega) (by omega) lo2 hi2 (by omega) (by omega) (by omega) (by omega))) ?_
   refine Rf.aO aK 11 5 rfl ?_
   refine Rf.dQ (by kernel_rfl) ?_
   refine Rf.bN [6,7] [1] [6] rfl rfl rfl ?_
   repeat refine Rf.aa ?_
   exact Rf.bI aK (fun _ _ h=>h) rfl rfl (fun α γ w h=>⟨_,rfl,(h.r 6 rfl),h.ex⟩)
 · repeat refine Rf.aa ?_
   refine Rf.bM none fo ?_
   refine Rf.aO aK 11 5 rfl ?_
   refine Rf.lN (j:=3) (q':=3) (s:=1) Tryz.underlying93 (by kernel_rfl) rfl (by decide) rfl rfl rfl rfl rfl rfl rfl rfl rfl ?_
   refine Rf.aO aK 11 5 rfl ?_
   refine Rf.mh [1,2,4] 5 (rA (Dy.jT 3 (q*2^n))) (.a [.c 5 0,.c 5 1]) rfl rfl rfl rfl rfl rfl rfl rfl (fun u X=>Pl.enters Tryz.func87 (by kernel_rfl) rfl u X) (fun α γ w h=>by obtain ⟨Na,Nb,e1,e2,-,-,ka,kb⟩:=h.fact 1 _ rfl;show Calls _ _ #[.agg #[.func (.func 123) #[] #[γ 1 0]],.agg #[γ 2 0,γ 2 1],.agg #[γ 4 0,γ 4 1]] _ _;rw [e1];exact dx 5 (by have h9:=gX _ 3 (by decide) Na Nb ka kb _ _ (shl (Rat.num q) (max n 0)) (shl ((Rat.den q:Nat):Int) (max (-n) 0)) (h.r 2 rfl) (h.r 4 rfl) (L+J) (M+J) NU RA (by omega) (by omega) NV;rw [show ((shl (Rat.num q) (max n 0):Int):Rat)/((shl ((Rat.den q:Nat):Int) (max (-n) 0):Int):Rat)=q*2^n from Dy.qm q n] at h9;exact h9)) ?_
   refine Rf.aO aK 11 5 rfl ?_
   refine Rf.oI (.int .i64 (-n)) rfl rfl rfl rfl rfl rfl rfl (fun X=>eH (by omega) X) ?_
   refine Rf.aB 6 _ _ rfl rfl rfl rfl rfl rfl rfl rfl rfl (fun u X=>Pl.enters Tryz.func18 (by kernel_rfl) rfl u X) (fun α γ w h=>qc 6 (dD _ (hg.ext h.ex) _ (Dy.jT 3 (q*2^n)) (-n) (h.r 5 rfl) (L+J+1) lr (by omega) (by omega) lo2 hi2 (by omega) (by omega) (by omega) (by omega))) ?_
   refine Rf.aO aK 11 5 rfl ?_
   refine Rf.dQ (by kernel_rfl) ?_
   refine Rf.bN [6,7] [1] [6] rfl rfl rfl ?_
   repeat refine Rf.aa ?_
   exact Rf.bI aK (fun _ _ h=>h) rfl rfl (fun α γ w h=>⟨_,rfl,(h.r 6 rfl),h.ex⟩)
 · repeat refine Rf.aa ?_
   refine Rf.bM none fo ?_
   refine Rf.aO aK 11 5 rfl ?_
   refine Rf.lN (j:=4) (q':=4) (s:=1) Tryz.underlying93 (by kernel_rfl) rfl (by decide) rfl rfl rfl rfl rfl rfl rfl rfl rfl ?_
   refine Rf.aO aK 11 5 rfl ?_
   refine Rf.mh [1,2,4] 5 (rA (Dy.jT 4 (q*2^n))) (.a [.c 5 0,.c 5 1]) rfl rfl rfl rfl rfl rfl rfl rfl (fun u X=>Pl.enters Tryz.func87 (by kernel_rfl) rfl u X) (fun α γ w h=>by obtain ⟨Na,Nb,e1,e2,-,-,ka,kb⟩:=h.fact 1 _ rfl;show Calls _ _ #[.agg #[.func (.func 124) #[] #[γ 1 1]],.agg #[γ 2 0,γ 2 1],.agg #[γ 4 0,γ 4 1]] _ _;rw [e2];exact dx 5 (by have h9:=gX _ 4 (by decide) Na Nb ka kb _ _ (shl (Rat.num q) (max n 0)) (shl ((Rat.den q:Nat):Int) (max (-n) 0)) (h.r 2 rfl) (h.r 4 rfl) (L+J) (M+J) NU RA (by omega) (by omega) NV;rw [show ((shl (Rat.num q) (max n 0):Int):Rat)/((shl ((Rat.den q:Nat):Int) (max (-n) 0):Int):Rat)=q*2^n from Dy.qm q n] at h9;exact h9)) ?_
   refine Rf.aO aK 11 5 rfl ?_
   refine Rf.oI (.int .i64 (-n)) rfl rfl rfl rfl rfl rfl rfl (fun X=>eH (by omega) X) ?_
   refine Rf.aB 6 _ _ rfl rfl rfl rfl rfl rfl rfl rfl rfl (fun u X=>Pl.enters Tryz.func18 (by kernel_rfl) rfl u X) (fun α γ w h=>qc 6 (dD _ (hg.ext h.ex) _ (Dy.jT 4 (q*2^n)) (-n) (h.r 5 rfl) (L+J+1) lr (by omega) (by omega) lo2 hi2 (by omega) (by omega) (by omega) (by omega))) ?_
   refine Rf.aO aK 11 5 rfl ?_
   refine Rf.dQ (by kernel_rfl) ?_
   refine Rf.bN [6,7] [1] [6] rfl rfl rfl ?_
   repeat refine Rf.aa ?_
   exact Rf.bI aK (fun _ _ h=>h) rfl rfl (fun α γ w h=>⟨_,rfl,(h.r 6 rfl),h.ex⟩)
theorem BI (w:World) (va:Value) (x:Rat) (n z:Int) (L:Nat) (lo hi:Int) (ha:Dn w va x L lo hi) (hz:z<0∨5≤z) :
  Calls Tryz.prog 41 #[va,.int .i64 n,.int .i64 z] w fun e w'=>e = .returned (.tuple #[.agg #[.bool false,.slice none 0 0,.int .i64 0],.int .i64 1])∧Pl.Ex w w':=by
 obtain ⟨ma,ea,Aa,ca,rfl,ua,da⟩:=ha
 have yx:=da.lo
 have yz:=da.hi
 refine Rf.bQ (n:=38) [.a [.c 0 0,.c 0 1,.v (.int .i64 ea)],.v (.int .i64 n),.v (.int .i64 z)] [[.bool (decide (ma<0)),.slice Aa (limbs (Int.natAbs ma)).length ca]] [(0,(rA ma).S)] Tryz.func41 rfl (by kernel_rfl) rfl rfl ⟨RS.in ⟨Aa,ca,rfl,ua⟩,trivial⟩ ?_
 repeat refine Rf.aa ?_
 refine Rf.az (by kernel_rfl) ?_
 refine Rf.aD aK 0 rfl ?_
 refine Rf.aI ?_
 repeat refine Rf.aa ?_
 refine Rf.az (by kernel_rfl) ?_
 refine Rf.xI 1 (U7) (.a [.f 120 [] [],.f 121 [] [],.f 122 [] [.c 1 0],.f 123 [] [.c 1 0],.f 124 [] [.c 1 1]]) rfl rfl rfl rfl rfl rfl (fun u X=>Pl.enters Tryz.func85 (by kernel_rfl) rfl u X) (fun α γ w h=>Calls.mono (qW _) fun e w' ⟨Na,Nb,he,ka,kb,hE⟩=>⟨tZ [.pointer (some ⟨Na,0,none⟩),.pointer (some ⟨Nb,0,none⟩)],dI rfl,by rw [he];simp only [den,bU,upd_same];rfl,⟨Na,Nb,rfl,rfl,oW (h.ext hE) rfl ka,oW (h.ext hE) rfl kb,ka,kb⟩,hE⟩) ?_
 refine Rf.aD aK 2 rfl ?_
 refine Rf.aI ?_
 repeat refine Rf.aa ?_
 refine Rf.az (by kernel_rfl) ?_
 refine Rf.aD aK 3 rfl ?_
 refine Rf.ji (p:=z<0) (yf _ _) rfl rfl rfl rfl rfl rfl (fun c1=>?_) (fun c1=>?_)
 · refine Rf.aD aK 3 rfl ?_
   refine Rf.aI ?_
   repeat refine Rf.aa ?_
   refine Rf.eU rfl ?_
   repeat refine Rf.aa ?_
   refine Rf.az (by kernel_rfl) ?_
   refine Rf.Ee (.a [.v (.bool false),.v (.slice none 0 0),.v (.int .i64 0)]) rfl rfl rfl (fun _ _=>rfl) (fun α γ X=>by kernel_rfl) ?_
   refine Rf.aD aK 3 rfl ?_
   refine Rf.aI ?_
   repeat refine Rf.aa ?_
   exact Rf.bI aK (fun _ _ h=>h) rfl rfl (fun α γ w h=>⟨rfl,h.ex⟩)
 · refine Rf.aD aK 3 rfl ?_
   refine Rf.iw (v:=.bool true) (fun X=>iP (by omega) X) rfl rfl rfl rfl rfl rfl ?_
   refine Rf.aD aK 3 rfl ?_
   refine Rf.aI ?_
   repeat refine Rf.aa ?_
   refine Rf.eU rfl ?_
   repeat refine Rf.aa ?_
   refine Rf.az (by kernel_rfl) ?_
   refine Rf.Ee (.a [.v (.bool false),.v (.slice none 0 0),.v (.int .i64 0)]) rfl rfl rfl (fun _ _=>rfl) (fun α γ X=>by kernel_rfl) ?_
   refine Rf.aD aK 3 rfl ?_
   refine Rf.aI ?_
   repeat refine Rf.aa ?_
   exact Rf.bI aK (fun _ _ h=>h) rfl rfl (fun α γ w h=>⟨rfl,h.ex⟩)
theorem wW (w:World) (hg:Gt w) (va:Value) (x:Rat) (n:Int) (j:Nat) (hj:j<5) (L J:Nat) (lo hi:Int) (ha:Dn w va x L lo hi) (hL:L+J≤900) (hn : -900000≤n∧n≤900000) (hlo : -900000≤lo) (hhi:hi≤900000) (hJ : -lo-n≤32*(J:Int)) (lo2 hi2:Int) (h1:lo2 ≤ -n) (h2 : -n+32*(L+1:Nat)≤hi2) (h3:lo2≤0) (h4:0≤hi2) (h5:lo2≤lo) (h6:hi≤hi2) :
  Calls Tryz.prog 41 #[va,.int .i64 n,.int .i64 ((j:Nat):Int)] w fun e w'=>∃ u,e = .returned (.tuple #[u,.int .i64 0])∧Dn w' u (Dy.cut j x n) (L+1) lo2 hi2∧Pl.Ex w w':=by
 obtain ⟨ma,ea,Aa,ca,rfl,ua,da⟩:=ha
 have yx:=da.lo
 have yz:=da.hi
 refine Rf.bQ (n:=38) [.a [.c 0 0,.c 0 1,.v (.int .i64 ea)],.v (.int .i64 n),.v (.int .i64 ((j:Nat):Int))] [[.bool (decide (ma<0)),.slice Aa (limbs (Int.natAbs ma)).length ca]] [(0,(rA ma).S)] Tryz.func41 rfl (by kernel_rfl) rfl rfl ⟨RS.in ⟨Aa,ca,rfl,ua⟩,trivial⟩ ?_
 repeat refine Rf.aa ?_
 refine Rf.az (by kernel_rfl) ?_
 refine Rf.aD aK 0 rfl ?_
 refine Rf.aI ?_
 repeat refine Rf.aa ?_
 refine Rf.az (by kernel_rfl) ?_
 refine Rf.xI 1 (U7) (.a [.f 120 [] [],.f 121 [] [],.f 122 [] [.c 1 0],.f 123 [] [.c 1 0],.f 124 [] [.c 1 1]]) rfl rfl rfl rfl rfl rfl (fun u X=>Pl.enters Tryz.func85 (by kernel_rfl) rfl u X) (fun α γ w h=>Calls.mono (qW _) fun e w' ⟨Na,Nb,he,ka,kb,hE⟩=>⟨tZ [.pointer (some ⟨Na,0,none⟩),.pointer (some ⟨Nb,0,none⟩)],dI rfl,by rw [he];simp only [den,bU,upd_same];rfl,⟨Na,Nb,rfl,rfl,oW (h.ext hE) rfl ka,oW (h.ext hE) rfl kb,ka,kb⟩,hE⟩) ?_
 refine Rf.aD aK 2 rfl ?_
 refine Rf.aI ?_
 repeat refine Rf.aa ?_
 refine Rf.az (by kernel_rfl) ?_
 refine Rf.aD aK 3 rfl ?_
 refine Rf.iw (v:=.bool false) (fun X=>jG (by omega) X) rfl rfl rfl rfl rfl rfl ?_
 refine Rf.aD aK 3 rfl ?_
 refine Rf.iw (v:=.bool false) (fun X=>jm (by omega) X) rfl rfl rfl rfl rfl rfl ?_
 refine Rf.aD aK 3 rfl ?_
 refine Rf.aI ?_
 repeat refine Rf.aa ?_
 refine Rf.eP rfl ?_
 repeat refine Rf.aa ?_
 refine Rf.dZ ?_
 repeat refine Rf.aa ?_
 refine Rf.az (by kernel_rfl) ?_
 refine Rf.aD aK 3 rfl ?_
 refine Rf.iw (v:=.int .i64 (ea+n)) (fun X=>yt (by omega) X) rfl rfl rfl rfl rfl rfl ?_
 refine Rf.ji (p:=(ea+n)≥0) (X0 _ _) rfl rfl rfl rfl rfl rfl (fun c1=>?_) (fun c1=>?_)
 · refine Rf.aI ?_
   repeat refine Rf.aa ?_
   refine Rf.eU rfl ?_
   repeat refine Rf.aa ?_
   refine Rf.az (by kernel_rfl) ?_
   refine Rf.aD aK 3 rfl ?_
   refine Rf.aI ?_
   repeat refine Rf.aa ?_
   exact Rf.bI aK (fun _ _ h=>h) rfl rfl (fun α γ w h=>⟨_,rfl,aap (h.r 0 rfl) ⟨da.can,by rw [← da.val,Dy.UK j ma ea n (by omega)],da.sz.le (by omega),by omega,by omega⟩,h.ex⟩)
 · refine Rf.aI ?_
   repeat refine Rf.aa ?_
   refine Rf.eP rfl ?_
   repeat refine Rf.aa ?_
   refine Rf.dZ ?_
   repeat refine Rf.aa ?_
   have l1:Sz (shl 1 (-ea-n)) (J+1):=jF (K:=1) (j:=J) (Sz.lit (by decide) (by decide)) (by omega) (by omega)
   have p1:0<shl 1 (-ea-n):=Dy.wV (by decide) (by omega)
   have lr:=Rz (j:=j) da.sz p1
   rw [show ((ma:Int):Rat)/((shl 1 (-ea-n):Int):Rat)=Dy.dv ma ea*2^n from Dy.lV ma ea n (by omega),da.val] at lr
   rcases (show j=0∨j=1∨j=2∨j=3∨j=4 by omega) with rfl | rfl | rfl | rfl | rfl
   · repeat refine Rf.aa ?_
     refine Rf.bM none fo ?_
     refine Rf.aO aK 17 3 rfl ?_
     refine Rf.lN (j:=0) (q':=0) (s:=1) Tryz.underlying93 (by kernel_rfl) rfl (by decide) rfl rfl rfl rfl rfl rfl rfl rfl rfl ?_
     refine Rf.aO aK 17 3 rfl ?_
     refine Rf.oI (.int .i64 (-ea)) rfl rfl rfl rfl rfl rfl rfl (fun X=>eH (by omega) X) ?_
     refine Rf.aO aK 17 3 rfl ?_
     refine Rf.vk (.v (.int .i64 ((-ea)-n))) rfl rfl rfl rfl rfl rfl rfl rfl rfl rfl (fun α γ w h=>(fun X=>jH (by omega) X) w) ?_
     refine Rf.aB 2 _ _ rfl rfl rfl rfl rfl rfl rfl rfl rfl (fun u X=>Pl.enters Tryz.func81 (by kernel_rfl) rfl u X) (fun α γ w h=>dx 2 (jL _ (-ea-n) (by omega) (by omega))) ?_
     refine Rf.mh [1,0,2] 3 (rA (Dy.jT 0 (x*2^n))) (.a [.c 3 0,.c 3 1]) rfl rfl rfl rfl rfl rfl rfl rfl (fun u X=>Pl.enters Tryz.func87 (by kernel_rfl) rfl u X) (fun α γ w h=>by obtain ⟨Na,Nb,e1,e2,-,-,ka,kb⟩:=h.fact 1 _ rfl;show Calls _ _ #[.agg #[.func (.func 120) #[] #[]],.agg #[γ 0 0,γ 0 1],.agg #[γ 2 0,γ 2 1]] _ _;exact dx 3 (by have h9:=gX _ 0 (by decide) Na Nb ka kb _ _ ma (shl 1 (-ea-n)) (h.r 0 rfl) (h.r 2 rfl) L (J+1) da.sz l1 (by omega) (by omega) p1;rw [show ((ma:Int):Rat)/((shl 1 (-ea-n):Int):Rat)=Dy.dv ma ea*2^n from Dy.lV ma ea n (by omega),da.val] at h9;exact h9)) ?_
     refine Rf.aO aK 17 3 rfl ?_
     refine Rf.oI (.int .i64 (-n)) rfl rfl rfl rfl rfl rfl rfl (fun X=>eH (by omega) X) ?_
     refine Rf.aB 4 _ _ rfl rfl rfl rfl rfl rfl rfl rfl rfl (fun u X=>Pl.enters Tryz.func18 (by kernel_rfl) rfl u X) (fun α γ w h=>qc 4 (dD _ (hg.ext h.ex) _ (Dy.jT 0 (x*2^n)) (-n) (h.r 3 rfl) (L+1) lr (by omega) (by omega) lo2 hi2 (by omega) (by omega) (by omega) (by omega))) ?_
     refine Rf.aO aK 17 3 rfl ?_
     refine Rf.dQ (by kernel_rfl) ?_
     refine Rf.bN [6,7] [1] [4] rfl rfl rfl ?_
     repeat refine Rf.aa ?_
     exact Rf.bI aK (fun _ _ h=>h) rfl rfl (fun α γ w h=>⟨_,rfl,(h.r 4 rfl),h.ex⟩)
   · repeat refine Rf.aa ?_
     refine Rf.bM none fo ?_
     refine Rf.aO aK 17 3 rfl ?_
     refine Rf.lN (j:=1) (q':=1) (s:=1) Tryz.underlying93 (by kernel_rfl) rfl (by decide) rfl rfl rfl rfl rfl rfl rfl rfl rfl ?_
     refine Rf.aO aK 17 3 rfl ?_
     refine Rf.oI (.int .i64 (-ea)) rfl rfl rfl rfl rfl rfl rfl (fun X=>eH (by omega) X) ?_
     refine Rf.aO aK 17 3 rfl ?_
     refine Rf.vk (.v (.int .i64 ((-ea)-n))) rfl rfl rfl rfl rfl rfl rfl rfl rfl rfl (fun α γ w h=>(fun X=>jH (by omega) X) w) ?_
     refine Rf.aB 2 _ _ rfl rfl rfl rfl rfl rfl rfl rfl rfl (fun u X=>Pl.enters Tryz.func81 (by kernel_rfl) rfl u X) (fun α γ w h=>dx 2 (jL _ (-ea-n) (by omega) (by omega))) ?_
     refine Rf.mh [1,0,2] 3 (rA (Dy.jT 1 (x*2^n))) (.a [.c 3 0,.c 3 1]) rfl rfl rfl rfl rfl rfl rfl rfl (fun u X=>Pl.enters Tryz.func87 (by kernel_rfl) rfl u X) (fun α γ w h=>by obtain ⟨Na,Nb,e1,e2,-,-,ka,kb⟩:=h.fact 1 _ rfl;show Calls _ _ #[.agg #[.func (.func 121) #[] #[]],.agg #[γ 0 0,γ 0 1],.agg #[γ 2 0,γ 2 1]] _ _;exact dx 3 (by have h9:=gX _ 1 (by decide) Na Nb ka kb _ _ ma (shl 1 (-ea-n)) (h.r 0 rfl) (h.r 2 rfl) L (J+1) da.sz l1 (by omega) (by omega) p1;rw [show ((ma:Int):Rat)/((shl 1 (-ea-n):Int):Rat)=Dy.dv ma ea*2^n from Dy.lV ma ea n (by omega),da.val] at h9;exact h9)) ?_
     refine Rf.aO aK 17 3 rfl ?_
     refine Rf.oI (.int .i64 (-n)) rfl rfl rfl rfl rfl rfl rfl (fun X=>eH (by omega) X) ?_
     refine Rf.aB 4 _ _ rfl rfl rfl rfl rfl rfl rfl rfl rfl (fun u X=>Pl.enters Tryz.func18 (by kernel_rfl) rfl u X) (fun α γ w h=>qc 4 (dD _ (hg.ext h.ex) _ (Dy.jT 1 (x*2^n)) (-n) (h.r 3 rfl) (L+1) lr (by omega) (by omega) lo2 hi2 (by omega) (by omega) (by omega) (by omega))) ?_
     refine Rf.aO aK 17 3 rfl ?_
     refine Rf.dQ (by kernel_rfl) ?_
     refine Rf.bN [6,7] [1] [4] rfl rfl rfl ?_
     repeat refine Rf.aa ?_
     exact Rf.bI aK (fun _ _ h=>h) rfl rfl (fun α γ w h=>⟨_,rfl,(h.r 4 rfl),h.ex⟩)
   · repeat refine Rf.aa ?_
     refine Rf.bM none fo ?_
     refine Rf.aO aK 17 3 rfl ?_
     refine Rf.lN (j:=2) (q':=2) (s:=1) Tryz.underlying93 (by kernel_rfl) rfl (by decide) rfl rfl rfl rfl rfl rfl rfl rfl rfl ?_
     refine Rf.aO aK 17 3 rfl ?_
     refine Rf.oI (.int .i64 (-ea)) rfl rfl rfl rfl rfl rfl rfl (fun X=>eH (by omega) X) ?_
     refine Rf.aO aK 17 3 rfl ?_
     refine Rf.vk (.v (.int .i64 ((-ea)-n))) rfl rfl rfl rfl rfl rfl rfl rfl rfl rfl (fun α γ w h=>(fun X=>jH (by omega) X) w) ?_
     refine Rf.aB 2 _ _ rfl rfl rfl rfl rfl rfl rfl rfl rfl (fun u X=>Pl.enters Tryz.func81 (by kernel_rfl) rfl u X) (fun α γ w h=>dx 2 (jL _ (-ea-n) (by omega) (by omega))) ?_
     refine Rf.mh [1,0,2] 3 (rA (Dy.jT 2 (x*2^n))) (.a [.c 3 0,.c 3 1]) rfl rfl rfl rfl rfl rfl rfl rfl (fun u X=>Pl.enters Tryz.func87 (by kernel_rfl) rfl u X) (fun α γ w h=>by obtain ⟨Na,Nb,e1,e2,-,-,ka,kb⟩:=h.fact 1 _ rfl;show Calls _ _ #[.agg #[.func (.func 122) #[] #[γ 1 0]],.agg #[γ 0 0,γ 0 1],.agg #[γ 2 0,γ 2 1]] _ _;rw [e1];exact dx 3 (by have h9:=gX _ 2 (by decide) Na Nb ka kb _ _ ma (shl 1 (-ea-n)) (h.r 0 rfl) (h.r 2 rfl) L (J+1) da.sz l1 (by omega) (by omega) p1;rw [show ((ma:Int):Rat)/((shl 1 (-ea-n):Int):Rat)=Dy.dv ma ea*2^n from Dy.lV ma ea n (by omega),da.val] at h9;exact h9)) ?_
     refine Rf.aO aK 17 3 rfl ?_
     refine Rf.oI (.int .i64 (-n)) rfl rfl rfl rfl rfl rfl rfl (fun X=>eH (by omega) X) ?_
     refine Rf.aB 4 _ _ rfl rfl rfl rfl rfl rfl rfl rfl rfl (fun u X=>Pl.enters Tryz.func18 (by kernel_rfl) rfl u X) (fun α γ w h=>qc 4 (dD _ (hg.ext h.ex) _ (Dy.jT 2 (x*2^n)) (-n) (h.r 3 rfl) (L+1) lr (by omega) (by omega) lo2 hi2 (by omega) (by omega) (by omega) (by omega))) ?_
     refine Rf.aO aK 17 3 rfl ?_
     refine Rf.dQ (by kernel_rfl) ?_
     refine Rf.bN [6,7] [1] [4] rfl rfl rfl ?_
     repeat refine Rf.aa ?_
     exact Rf.bI aK (fun _ _ h=>h) rfl rfl (fun α γ w h=>⟨_,rfl,(h.r 4 rfl),h.ex⟩)
   · repeat refine Rf.aa ?_
     refine Rf.bM none fo ?_
     refine Rf.aO aK 17 3 rfl ?_
     refine Rf.lN (j:=3) (q':=3) (s:=1) Tryz.underlying93 (by kernel_rfl) rfl (by decide) rfl rfl rfl rfl rfl rfl rfl rfl rfl ?_
     refine Rf.aO aK 17 3 rfl ?_
     refine Rf.oI (.int .i64 (-ea)) rfl rfl rfl rfl rfl rfl rfl (fun X=>eH (by omega) X) ?_
     refine Rf.aO aK 17 3 rfl ?_
     refine Rf.vk (.v (.int .i64 ((-ea)-n))) rfl rfl rfl rfl rfl rfl rfl rfl rfl rfl (fun α γ w h=>(fun X=>jH (by omega) X) w) ?_
     refine Rf.aB 2 _ _ rfl rfl rfl rfl rfl rfl rfl rfl rfl (fun u X=>Pl.enters Tryz.func81 (by kernel_rfl) rfl u X) (fun α γ w h=>dx 2 (jL _ (-ea-n) (by omega) (by omega))) ?_
     refine Rf.mh [1,0,2] 3 (rA (Dy.jT 3 (x*2^n))) (.a [.c 3 0,.c 3 1]) rfl rfl rfl rfl rfl rfl rfl rfl (fun u X=>Pl.enters Tryz.func87 (by kernel_rfl) rfl u X) (fun α γ w h=>by obtain ⟨Na,Nb,e1,e2,-,-,ka,kb⟩:=h.fact 1 _ rfl;show Calls _ _ #[.agg #[.func (.func 123) #[] #[γ 1 0]],.agg #[γ 0 0,γ 0 1],.agg #[γ 2 0,γ 2 1]] _ _;rw [e1];exact dx 3 (by have h9:=gX _ 3 (by decide) Na Nb ka kb _ _ ma (shl 1 (-ea-n)) (h.r 0 rfl) (h.r 2 rfl) L (J+1) da.sz l1 (by omega) (by omega) p1;rw [show ((ma:Int):Rat)/((shl 1 (-ea-n):Int):Rat)=Dy.dv ma ea*2^n from Dy.lV ma ea n (by omega),da.val] at h9;exact h9)) ?_
     refine Rf.aO aK 17 3 rfl ?_
     refine Rf.oI (.int .i64 (-n)) rfl rfl rfl rfl rfl rfl rfl (fun X=>eH (by omega) X) ?_
     refine Rf.aB 4 _ _ rfl rfl rfl rfl rfl rfl rfl rfl rfl (fun u X=>Pl.enters Tryz.func18 (by kernel_rfl) rfl u X) (fun α γ w h=>qc 4 (dD _ (hg.ext h.ex) _ (Dy.jT 3 (x*2^n)) (-n) (h.r 3 rfl) (L+1) lr (by omega) (by omega) lo2 hi2 (by omega) (by omega) (by omega) (by omega))) ?_
     refine Rf.aO aK 17 3 rfl ?_
     refine Rf.dQ (by kernel_rfl) ?_
     refine Rf.bN [6,7] [1] [4] rfl rfl rfl ?_
     repeat refine Rf.aa ?_
     exact Rf.bI aK (fun _ _ h=>h) rfl rfl (fun α γ w h=>⟨_,rfl,(h.r 4 rfl),h.ex⟩)
   · repeat refine Rf.aa ?_
     refine Rf.bM none fo ?_
     refine Rf.aO aK 17 3 rfl ?_
     refine Rf.lN (j:=4) (q':=4) (s:=1) Tryz.underlying93 (by kernel_rfl) rfl (by decide) rfl rfl rfl rfl rfl rfl rfl rfl rfl ?_
     refine Rf.aO aK 17 3 rfl ?_
     refine Rf.oI (.int .i64 (-ea)) rfl rfl rfl rfl rfl rfl rfl (fun X=>eH (by omega) X) ?_
     refine Rf.aO aK 17 3 rfl ?_
     refine Rf.vk (.v (.int .i64 ((-ea)-n))) rfl rfl rfl rfl rfl rfl rfl rfl rfl rfl (fun α γ w h=>(fun X=>jH (by omega) X) w) ?_
     refine Rf.aB 2 _ _ rfl rfl rfl rfl rfl rfl rfl rfl rfl (fun u X=>Pl.enters Tryz.func81 (by kernel_rfl) rfl u X) (fun α γ w h=>dx 2 (jL _ (-ea-n) (by omega) (by omega))) ?_
     refine Rf.mh [1,0,2] 3 (rA (Dy.jT 4 (x*2^n))) (.a [.c 3 0,.c 3 1]) rfl rfl rfl rfl rfl rfl rfl rfl (fun u X=>Pl.enters Tryz.func87 (by kernel_rfl) rfl u X) (fun α γ w h=>by obtain ⟨Na,Nb,e1,e2,-,-,ka,kb⟩:=h.fact 1 _ rfl;show Calls _ _ #[.agg #[.func (.func 124) #[] #[γ 1 1]],.agg #[γ 0 0,γ 0 1],.agg #[γ 2 0,γ 2 1]] _ _;rw [e2];exact dx 3 (by have h9:=gX _ 4 (by decide) Na Nb ka kb _ _ ma (shl 1 (-ea-n)) (h.r 0 rfl) (h.r 2 rfl) L (J+1) da.sz l1 (by omega) (by omega) p1;rw [show ((ma:Int):Rat)/((shl 1 (-ea-n):Int):Rat)=Dy.dv ma ea*2^n from Dy.lV ma ea n (by omega),da.val] at h9;exact h9)) ?_
     refine Rf.aO aK 17 3 rfl ?_
     refine Rf.oI (.int .i64 (-n)) rfl rfl rfl rfl rfl rfl rfl (fun X=>eH (by omega) X) ?_
     refine Rf.aB 4 _ _ rfl rfl rfl rfl rfl rfl rfl rfl rfl (fun u X=>Pl.enters Tryz.func18 (by kernel_rfl) rfl u X) (fun α γ w h=>qc 4 (dD _ (hg.ext h.ex) _ (Dy.jT 4 (x*2^n)) (-n) (h.r 3 rfl) (L+1) lr (by omega) (by omega) lo2 hi2 (by omega) (by omega) (by omega) (by omega))) ?_
     refine Rf.aO aK 17 3 rfl ?_
     refine Rf.dQ (by kernel_rfl) ?_
     refine Rf.bN [6,7] [1] [4] rfl rfl rfl ?_
     repeat refine Rf.aa ?_
     exact Rf.bI aK (fun _ _ h=>h) rfl rfl (fun α γ w h=>⟨_,rfl,(h.r 4 rfl),h.ex⟩)
end Go.Proofs.YtdpmbgomcjnohaaGreatDoor
