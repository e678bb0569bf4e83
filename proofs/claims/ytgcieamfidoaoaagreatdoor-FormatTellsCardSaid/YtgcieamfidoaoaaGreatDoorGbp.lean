/- Base. -/
import Derived.Test.YtgcieamfidoaoaaGreatDoorGbo
set_option linter.all false
set_option maxHeartbeats 8000000
set_option maxRecDepth 100000
namespace Go.Proofs.YtgcieamfidoaoaaGreatDoor
open Rf Pl Go.Proofs.Tryz
open Go.RowKit Rf Fm
def yH (b p:Nat) (hi:Int) (n:Bool) (m e:Int):Fl:=if (kY b p (m+1) e).2≤hi then .fin n (kY b p (m+1) e).1 (kY b p (m+1) e).2 else .inf n
theorem aeB {b p:Nat} {hi m e:Int} {n:Bool} (h:m+1=((b^p:Nat):Int)) (g:e+1≤hi):yH b p hi n m e = .fin n ((b^(p-1):Nat):Int) (e+1):=by unfold yH kY;rw [if_pos h];exact if_pos g
theorem aeC {b p:Nat} {hi m e:Int} {n:Bool} (h:m+1=((b^p:Nat):Int)) (g:¬ e+1≤hi):yH b p hi n m e = .inf n:=by unfold yH kY;rw [if_pos h];exact if_neg g
theorem aeD {b p:Nat} {hi m e:Int} {n:Bool} (h:¬ m+1=((b^p:Nat):Int)) (g:e≤hi):yH b p hi n m e = .fin n (m+1) e:=by unfold yH kY;rw [if_neg h];exact if_pos g
def qm (b p:Nat) (lo:Int) (n:Bool) (m e:Int):Fl:=if (iL b p lo m e).1=0 then .zero n else .fin n (iL b p lo m e).1 (iL b p lo m e).2
theorem ab3 {b p:Nat} {lo m e:Int} {n:Bool} (hb:2≤b) (hp:1≤p) (h:lo<e) (g:m-1<((b^(p-1):Nat):Int)):qm b p lo n m e = .fin n (((b^p:Nat):Int)-1) (e-1):=by have h0:1<b^p:=Nat.one_lt_pow (by omega) (by omega);have h1:iL b p lo m e=(((b^p:Nat):Int)-1,e-1):=if_pos ⟨h,g⟩;unfold qm;rw [h1];exact if_neg (show ¬ (((b^p:Nat):Int)-1=0) by omega)
theorem UA {b p:Nat} {lo m e:Int} {n:Bool} (h:¬ (lo<e∧m-1<((b^(p-1):Nat):Int))) (g:m-1=0):qm b p lo n m e = .zero n:=by have h1:iL b p lo m e=(m-1,e):=if_neg h;unfold qm;rw [h1];exact if_pos g
theorem UB {b p:Nat} {lo m e:Int} {n:Bool} (h:¬ (lo<e∧m-1<((b^(p-1):Nat):Int))) (g:¬ m-1=0):qm b p lo n m e = .fin n (m-1) e:=by have h1:iL b p lo m e=(m-1,e):=if_neg h;unfold qm;rw [h1];exact if_neg g
theorem EQ (w:World) (b p:Nat) (lo hi:Int) (hf:gV b p lo hi) :Calls prog 126 #[A0b b p lo hi] w fun e w'=>∃ u,e = .returned u∧Un w' u (Int.natAbs (((b^p:Nat):Int)-1))∧aS w w':=by have f1:=hf.p1;have f2:=hf.jM;have f3:=hf.l;have f4:=hf.l1;have f5:=hf.h1;have hb2:=hf.b2;have hpw:=Nat.pow_pos (n:=p) (show 0<b by omega);exact aC (n:=15) [A0d b p lo hi] [] [] func126 rfl (by kernel_rfl) rfl rfl trivial<|aD aa 1 0 rfl<|ak 0 rfl (fun _=>dh 0 (dB _ b p p lo hi ((p:Nat):Int) hf.r (by omega) (by omega)))<|lD (e := 57) (m:=1) [.int .u32 1] 1 (bW 1) rfl rfl rfl (fun _ _=>rfl) (fun α γ X=>by kernel_rfl) rfl (fun N w k=>Un.one (x:=1) k rfl (by omega))<|ak (S:=bW (Int.natAbs (((b^p:Nat):Int)-1))) (res:=.t [.c 2 0,vT]) 2 rfl (fun h=>LA 2 (Qd _ _ _ (b^p) 1 (h.r 0 rfl) (h.r 1 rfl) (Nat.le_trans (bg hf.r (by omega):Sn (b^p) 38) (by decide)) true (decide_eq_true (by omega)) (Int.natAbs (((b^p:Nat):Int)-1)) (by omega)))<|aL aa 1 1 rfl<|aJ aa rfl (fun h=>⟨_,rfl,h.r 2 rfl,h.ex⟩)
theorem Dm (w:World) (b p:Nat) (lo hi:Int) (hf:gV b p lo hi) (n9:Bool) :Calls prog 74 #[A0b b p lo hi,.bool n9] w fun e w'=>∃ u,e = .returned u∧Fv w' u (.fin n9 (((b^p:Nat):Int)-1) hi)∧aS w w':=by have f1:=hf.p1;have f2:=hf.jM;have f3:=hf.l;have f4:=hf.l1;have f5:=hf.h1;have hb2:=hf.b2;have hpw:=Nat.pow_pos (n:=p) (show 0<b by omega);exact aC (n:=11) [A0d b p lo hi,vB n9] [] [] func74 rfl (by kernel_rfl) rfl rfl trivial<|bP aa 1 0 rfl<|aQ none fo<|az aa 7 2 rfl<|ah 0 rfl (fun _=>dh 0 (EQ _ b p lo hi hf))<|az aa 7 2 rfl<|P8 (.a [vI 1,vB n9,.c 0 0,vI hi]) [5,7,9] rfl rfl rfl rfl rfl (fun _ _=>rfl) (fun α γ hp X=>H6 rfl rfl (Jy 1 hi n9 (γ 0 0) (hp 0 0)) X)<|az aa 7 2 rfl<|aR (by kernel_rfl)<|aU [4] [1] [0] rfl<|aJ aa rfl (fun h=>⟨_,rfl,Fv.mk (x:=.fin n9 (((b^p:Nat):Int)-1) hi) (h.r 0 rfl),h.ex⟩)
theorem H7 (w:World) (va:Value) (n9:Bool) (m e0:Int) (ha:Fv w va (.fin n9 m e0)) (b p:Nat) (lo hi:Int) (hf:gV b p lo hi) (hx:Nf b p lo m e0) (hh:e0≤hi) :A0g 104 #[A0b b p lo hi,va] w (yH b p hi n9 m e0):=by
 have f1:=hf.p1;have f2:=hf.jM;have f3:=hf.l;have f4:=hf.l1;have f5:=hf.h1;obtain ⟨x1,x2,x3,x4⟩:=hx;have hb2:=hf.b2;have hpw:=Nat.pow_pos (n:=p) (show 0<b by omega);have hpq:=Nat.pow_pos (n:=p-1) (show 0<b by omega);have hs:Sn (mn (.fin n9 m e0)) 38:=Sn.down (bg hf.r (by omega):Sn (b^p) 38) (show m.natAbs≤b^p by omega);have hs1:Sn (Int.natAbs m) 38:=hs;have hs2:Sn (Int.natAbs (m+1)) 38:=Sn.down (bg hf.r (by omega):Sn (b^p) 38) (by omega);obtain ⟨Aa,ca,rfl,ua⟩:=ha;refine aC (n:=37) [A0d b p lo hi,.a [vI 1,vB n9,.c 0 0,vI e0]] [[_]] [(0,(bW (Int.natAbs m)).S)] func104 rfl (by kernel_rfl) rfl rfl ⟨RS.in ua,trivial⟩<|aD aa 1 0 rfl<|lD (e := 57) (m:=1) [.int .u32 1] 1 (bW 1) rfl rfl rfl (fun _ _=>rfl) (fun α γ X=>by kernel_rfl) rfl (fun N w k=>Un.one (x:=1) k rfl (by omega))<|ak 2 rfl (fun h=>dh 2 (LG _ _ _ (Int.natAbs m) 1 (h.r 0 rfl) (h.r 1 rfl) (Nat.le_trans hs1 (by decide)) (Nat.le_trans (Sn.of (K:=1) (by decide)) (by decide)) (Int.natAbs (m+1)) (by omega)))<|aL aa 0 3 rfl ?_;by_cases hm:m+1=((b^p:Nat):Int)
 · refine bM none fo rfl<|az aa 8 3 rfl<|ah 3 rfl (fun _=>dh 3 (dB _ b p p lo hi ((p:Nat):Int) hf.r (by omega) (by omega)))<|ah 4 rfl (fun h=>aH 4 (jy _ _ _ (Int.natAbs (m+1)) (b^p) (h.r 2 rfl) (h.r 3 rfl) _ rfl))<|bC (vT) rfl (fun _=>aI (jB.2 (by omega)) _)<|aR (by kernel_rfl)<|aU [2,3,4,17] [0,1,2] [2] rfl<|bP aa 1 0 rfl<|aQ none fo<|az aa 12 3 rfl<|Ei (vI (((p:Nat):Int)-1)) rfl rfl rfl rfl rfl rfl rfl rfl rfl rfl (fun α γ w h=>(fun X=>fQ (by omega) X) w)<|ah 5 rfl (fun _=>dh 5 (dB _ b p (p-1) lo hi (((p:Nat):Int)-1) hf.r (by omega) (by omega)))<|az aa 12 3 rfl<|bC (vI (e0+1)) rfl (fun _=>iA (by omega) _)<|az aa 12 3 rfl<|aR (by kernel_rfl)<|aU [2,3,4] [0,1,2] [5] rfl ?_;repeat refine dG ?_
   by_cases he:e0+1≤hi
   · exact aD aa 0 3 rfl<|aj (aY (by omega)) rfl<|aL aa 3 3 rfl<|aJ aa rfl (fun h=>⟨_,rfl,by rw [aeB hm he];exact Fv.mk (x:=.fin n9 ((b^(p-1):Nat):Int) (e0+1)) (h.r 5 rfl),h.ex⟩)
   · exact aD aa 0 3 rfl<|aj (iF (by omega)) rfl<|ay aa 1 3 rfl<|gI (.a [vI 2,vB n9,vN,vI 0]) rfl rfl rfl (fun _ _=>rfl) (fun α γ X=>by kernel_rfl)<|aL aa 0 3 rfl<|aJ aa rfl (fun h=>⟨_,rfl,by rw [aeC hm he];exact Fv.mk (x:=.inf n9) (gp _),h.ex⟩)
 · exact bM none fo rfl<|az aa 8 3 rfl<|ah 3 rfl (fun _=>dh 3 (dB _ b p p lo hi ((p:Nat):Int) hf.r (by omega) (by omega)))<|ah 4 rfl (fun h=>aH 4 (jy _ _ _ (Int.natAbs (m+1)) (b^p) (h.r 2 rfl) (h.r 3 rfl) _ rfl))<|bC (vF) rfl (fun h=>aA (fun h=>hm (by have h9:=jB.1 h;omega)) _)<|aR (by kernel_rfl)<|aU [2,3,4,17] [0,1,2] [2] rfl<|aD aa 2 3 rfl<|aj (aY (by omega)) rfl<|aL aa 3 3 rfl<|aJ aa rfl (fun h=>⟨_,rfl,by rw [aeD hm hh];exact Fv.mk (x:=.fin n9 (m+1) e0) (h.r 2 rfl),h.ex⟩)
theorem JC (w:World) (va:Value) (n9:Bool) (m e0:Int) (ha:Fv w va (.fin n9 m e0)) (b p:Nat) (lo hi:Int) (hf:gV b p lo hi) (hx:Nf b p lo m e0) (hh:e0≤hi) :A0g 103 #[A0b b p lo hi,va] w (qm b p lo n9 m e0):=by
 have f1:=hf.p1;have f2:=hf.jM;have f3:=hf.l;have f4:=hf.l1;have f5:=hf.h1;obtain ⟨x1,x2,x3,x4⟩:=hx;have hb2:=hf.b2;have hpw:=Nat.pow_pos (n:=p) (show 0<b by omega);have hpq:=Nat.pow_pos (n:=p-1) (show 0<b by omega);have hs:Sn (mn (.fin n9 m e0)) 38:=Sn.down (bg hf.r (by omega):Sn (b^p) 38) (show m.natAbs≤b^p by omega);have hs1:Sn (Int.natAbs m) 38:=hs;have hs2:Sn (Int.natAbs (m+1)) 38:=Sn.down (bg hf.r (by omega):Sn (b^p) 38) (by omega);obtain ⟨Aa,ca,rfl,ua⟩:=ha;refine aC (n:=46) [A0d b p lo hi,.a [vI 1,vB n9,.c 0 0,vI e0]] [[_]] [(0,(bW (Int.natAbs m)).S)] func103 rfl (by kernel_rfl) rfl rfl ⟨RS.in ua,trivial⟩<|aD aa 1 0 rfl<|lD (e := 57) (m:=1) [.int .u32 1] 1 (bW 1) rfl rfl rfl (fun _ _=>rfl) (fun α γ X=>by kernel_rfl) rfl (fun N w k=>Un.one (x:=1) k rfl (by omega))<|ak (S:=bW (Int.natAbs (m-1))) (res:=.t [.c 2 0,vT]) 2 rfl (fun h=>LA 2 (Qd _ _ _ (Int.natAbs m) 1 (h.r 0 rfl) (h.r 1 rfl) (Nat.le_trans hs1 (by decide)) true (decide_eq_true (by omega)) (Int.natAbs (m-1)) (by omega)))<|aL aa 0 3 rfl<|bN ?_;repeat refine dG ?_
 by_cases hl:lo<e0
 · by_cases hg:m-1<((b^(p-1):Nat):Int)
   · exact bM none fo rfl<|az aa 17 3 rfl<|bC (vT) rfl (fun _=>iF (by omega) _)<|az aa 17 3 rfl<|Ei (vI (((p:Nat):Int)-1)) rfl rfl rfl rfl rfl rfl rfl rfl rfl rfl (fun α γ w h=>(fun X=>fQ (by omega) X) w)<|ah 3 rfl (fun _=>dh 3 (dB _ b p (p-1) lo hi (((p:Nat):Int)-1) hf.r (by omega) (by omega)))<|ah 4 rfl (fun h=>aH 4 (jy _ _ _ (Int.natAbs (m-1)) (b^(p-1)) (h.r 2 rfl) (h.r 3 rfl) _ rfl))<|bC (vT) rfl (fun _=>bE (jA.2 (by omega)) _)<|az aa 17 3 rfl<|aR (by kernel_rfl)<|aU [2,3,4,13] [0,1,2] [2] rfl<|bP aa 1 0 rfl<|aQ none fo<|az aa 9 3 rfl<|ah 5 rfl (fun _=>dh 5 (EQ _ b p lo hi hf))<|az aa 9 3 rfl<|bC (vI (e0-1)) rfl (fun _=>fQ (by omega) _)<|az aa 9 3 rfl<|aR (by kernel_rfl)<|aU [3,4] [1,2] [5] rfl<|dL<|bP aa 1 3 rfl<|aJ aa rfl (fun h=>⟨_,rfl,by rw [ab3 hb2 f1 hl hg];exact Fv.mk (x:=.fin n9 (((b^p:Nat):Int)-1) (e0-1)) (h.r 5 rfl),h.ex⟩)
   · refine bM none fo rfl<|az aa 17 3 rfl<|bC (vT) rfl (fun _=>iF (by omega) _)<|az aa 17 3 rfl<|Ei (vI (((p:Nat):Int)-1)) rfl rfl rfl rfl rfl rfl rfl rfl rfl rfl (fun α γ w h=>(fun X=>fQ (by omega) X) w)<|ah 3 rfl (fun _=>dh 3 (dB _ b p (p-1) lo hi (((p:Nat):Int)-1) hf.r (by omega) (by omega)))<|ah 4 rfl (fun h=>aH 4 (jy _ _ _ (Int.natAbs (m-1)) (b^(p-1)) (h.r 2 rfl) (h.r 3 rfl) _ rfl))<|bC (vF) rfl (fun h=>aP (fun h=>hg (by have h9:=jA.1 h;omega)) _)<|az aa 17 3 rfl<|aR (by kernel_rfl)<|aU [2,3,4,13] [0,1,2] [2] rfl<|bP aa 1 0 rfl ?_;by_cases hz:m-1=0
     · exact aD aa 0 3 rfl<|dF ((limbs (Int.natAbs (m-1))).length) underlying24 rfl rfl rfl rfl rfl rfl (fun w f h=>Un.jr h)<|aj (aI (by rw [Int.ofNat_eq_zero,iU];omega)) rfl<|ay aa 1 3 rfl<|gI (.a [vI 0,vB n9,vN,vI 0]) rfl rfl rfl (fun _ _=>rfl) (fun α γ X=>by kernel_rfl)<|aL aa 0 3 rfl<|gJ aa (fun _ _ h=>cK (eD h)) rfl rfl (fun α γ w h=>⟨_,rfl,by rw [UA (fun h=>hg h.2) hz];exact Fv.mk (x:=.zero n9) (gp _),h.ex⟩)
     · exact aD aa 0 3 rfl<|dF ((limbs (Int.natAbs (m-1))).length) underlying24 rfl rfl rfl rfl rfl rfl (fun w f h=>Un.jr h)<|aj (aA (fun h=>by rw [Int.ofNat_eq_zero,iU] at h;omega)) rfl<|aL aa 2 3 rfl<|dL<|bP aa 1 3 rfl<|aJ aa rfl (fun h=>⟨_,rfl,by rw [UB (fun h=>hg h.2) hz];exact Fv.mk (x:=.fin n9 (m-1) e0) (h.r 2 rfl),h.ex⟩)
 · refine bM none fo rfl<|az aa 17 3 rfl<|bC (vF) rfl (fun _=>aY (by omega) _)<|az aa 17 3 rfl<|aR (by kernel_rfl)<|aU [2,3,4,13] [0,1,2] [2] rfl<|bP aa 1 0 rfl ?_;by_cases hz:m-1=0
   · exact aD aa 0 3 rfl<|dF ((limbs (Int.natAbs (m-1))).length) underlying24 rfl rfl rfl rfl rfl rfl (fun w f h=>Un.jr h)<|aj (aI (by rw [Int.ofNat_eq_zero,iU];omega)) rfl<|ay aa 1 3 rfl<|gI (.a [vI 0,vB n9,vN,vI 0]) rfl rfl rfl (fun _ _=>rfl) (fun α γ X=>by kernel_rfl)<|aL aa 0 3 rfl<|gJ aa (fun _ _ h=>cK (eD h)) rfl rfl (fun α γ w h=>⟨_,rfl,by rw [UA (fun h=>hl h.1) hz];exact Fv.mk (x:=.zero n9) (gp _),h.ex⟩)
   · exact aD aa 0 3 rfl<|dF ((limbs (Int.natAbs (m-1))).length) underlying24 rfl rfl rfl rfl rfl rfl (fun w f h=>Un.jr h)<|aj (aA (fun h=>by rw [Int.ofNat_eq_zero,iU] at h;omega)) rfl<|aL aa 2 3 rfl<|dL<|bP aa 1 3 rfl<|aJ aa rfl (fun h=>⟨_,rfl,by rw [UB (fun h=>hl h.1) hz];exact Fv.mk (x:=.fin n9 (m-1) e0) (h.r 2 rfl),h.ex⟩)
def K3 (d:Nat) (a:Bool) (m:Int) (o g:Bool):Bool:=match d with | 0=>decide (0<m)||decide (m=0)&&o | 1=>decide (0≤m) | 2=>false | 3=>a&&!g | _=>a&&g
theorem UC {d:Nat} (hd:d<5) (r:Rat) (o g:Bool):K3 d (decide (0<r)) (BZ r) o g=eO d g o r:=by
 rcases (show d=0∨d=1∨d=2∨d=3∨d=4 by omega) with rfl | rfl | rfl | rfl | rfl
 · show (decide (0<BZ r)||decide (BZ r=0)&&o)=_;unfold eO BZ;by_cases h1:r<1/2
   · rw [if_pos h1];simp;grind
   · rw [if_neg h1];by_cases h2:r=1/2
     · rw [if_pos h2];simp [h2]
     · rw [if_neg h2];simp;grind
 · show decide (0≤BZ r)=_;unfold eO BZ;by_cases h1:r<1/2
   · rw [if_pos h1];simp;grind
   · rw [if_neg h1];by_cases h2:r=1/2
     · rw [if_pos h2];simp [h2]
     · rw [if_neg h2];simp;grind
 · show false=_;unfold eO;simp
 · show (decide (0<r)&&!g)=_;unfold eO;cases g<;>simp
 · show (decide (0<r)&&g)=_;unfold eO;cases g<;>simp
theorem aeE (w:World) (a:Bool) (m:Int) (o g:Bool) (hm:0<m) :A0f 111 #[.agg #[.bool a,.int .i64 m,.bool o,.bool g]] w (.bool (K3 0 a m o g)):=by exact aC (n:=15) [.a [vB a,vI m,vB o,vB g]] [] [] func111 rfl (by kernel_rfl) rfl rfl trivial<|aD aa 1 0 rfl<|aj (iF (by omega)) rfl<|aL aa 0 1 rfl<|aJ aa rfl (fun h=>⟨by show _=Ending.returned (.bool (decide (0<m)||decide (m=0)&&o));rw [decide_eq_true hm];rfl,h.ex⟩)
theorem aeF (w:World) (a:Bool) (m:Int) (o g:Bool) (hm:m=0) :A0f 111 #[.agg #[.bool a,.int .i64 m,.bool o,.bool g]] w (.bool (K3 0 a m o g)):=by exact aC (n:=15) [.a [vB a,vI m,vB o,vB g]] [] [] func111 rfl (by kernel_rfl) rfl rfl trivial<|aD aa 1 0 rfl<|aj (aY (by omega)) rfl<|aF aa 1 rfl<|aj (aI (by omega)) rfl<|aL aa 0 1 rfl<|aJ aa rfl (fun h=>⟨by show _=Ending.returned (.bool (decide (0<m)||decide (m=0)&&o));rw [hm];cases o<;>rfl,h.ex⟩)
theorem aeG (w:World) (a:Bool) (m:Int) (o g:Bool) (hm:m<0) :A0f 111 #[.agg #[.bool a,.int .i64 m,.bool o,.bool g]] w (.bool (K3 0 a m o g)):=by exact aC (n:=15) [.a [vB a,vI m,vB o,vB g]] [] [] func111 rfl (by kernel_rfl) rfl rfl trivial<|aD aa 1 0 rfl<|aj (aY (by omega)) rfl<|aF aa 1 rfl<|aj (aA (by omega)) rfl<|aL aa 0 1 rfl<|aJ aa rfl (fun h=>⟨by show _=Ending.returned (.bool (decide (0<m)||decide (m=0)&&o));rw [decide_eq_false (show ¬ 0<m by omega),decide_eq_false (show ¬ m=0 by omega)];rfl,h.ex⟩)
theorem aeH (w:World) (a:Bool) (m:Int) (o g:Bool) (hm:0≤m) :A0f 112 #[.agg #[.bool a,.int .i64 m,.bool o,.bool g]] w (.bool (K3 1 a m o g)):=by exact aC (n:=6) [.a [vB a,vI m,vB o,vB g]] [] [] func112 rfl (by kernel_rfl) rfl rfl trivial<|aD aa 1 0 rfl<|aj (dD (by omega)) rfl<|aL aa 0 1 rfl<|aJ aa rfl (fun h=>⟨by show _=Ending.returned (.bool (decide (0≤m)));rw [decide_eq_true hm];rfl,h.ex⟩)
theorem aeI (w:World) (a:Bool) (m:Int) (o g:Bool) (hm:¬ 0≤m) :A0f 112 #[.agg #[.bool a,.int .i64 m,.bool o,.bool g]] w (.bool (K3 1 a m o g)):=by exact aC (n:=6) [.a [vB a,vI m,vB o,vB g]] [] [] func112 rfl (by kernel_rfl) rfl rfl trivial<|aD aa 1 0 rfl<|aj (dN (by omega)) rfl<|aL aa 0 1 rfl<|aJ aa rfl (fun h=>⟨by show _=Ending.returned (.bool (decide (0≤m)));rw [decide_eq_false hm];rfl,h.ex⟩)
theorem aeJ (w:World) (a:Bool) (m:Int) (o g:Bool) :A0f 113 #[.agg #[.bool a,.int .i64 m,.bool o,.bool g]] w (.bool (K3 2 a m o g)):=by exact aC (n:=3) [.a [vB a,vI m,vB o,vB g]] [] [] func113 rfl (by kernel_rfl) rfl rfl trivial<|bP aa 2 0 rfl<|aJ aa rfl (fun h=>⟨rfl,h.ex⟩)
theorem ab4 (w:World) (m:Int) (o:Bool) :A0f 115 #[.agg #[.bool true,.int .i64 m,.bool o,.bool true]] w (.bool (K3 3 true m o true)):=by exact aC (n:=10) [.a [vT,vI m,vB o,vT]] [] [] func115 rfl (by kernel_rfl) rfl rfl trivial<|aD aa 1 0 rfl<|bf (.bool false) rfl (fun X=>aN _ X)<|aL aa 0 1 rfl<|aJ aa rfl (fun h=>⟨rfl,h.ex⟩)
theorem ab5 (w:World) (m:Int) (o:Bool) :A0f 115 #[.agg #[.bool true,.int .i64 m,.bool o,.bool false]] w (.bool (K3 3 true m o false)):=by exact aC (n:=10) [.a [vT,vI m,vB o,vF]] [] [] func115 rfl (by kernel_rfl) rfl rfl trivial<|aD aa 1 0 rfl<|bf (.bool true) rfl (fun X=>aN _ X)<|aL aa 0 1 rfl<|aJ aa rfl (fun h=>⟨rfl,h.ex⟩)
theorem aeK (w:World) (m:Int) (o g:Bool) :A0f 115 #[.agg #[.bool false,.int .i64 m,.bool o,.bool g]] w (.bool (K3 3 false m o g)):=by exact aC (n:=10) [.a [vF,vI m,vB o,vB g]] [] [] func115 rfl (by kernel_rfl) rfl rfl trivial<|bP aa 2 0 rfl<|aJ aa rfl (fun h=>⟨rfl,h.ex⟩)
theorem ab6 (w:World) (m:Int) (o:Bool) :A0f 117 #[.agg #[.bool true,.int .i64 m,.bool o,.bool true]] w (.bool (K3 4 true m o true)):=by exact aC (n:=9) [.a [vT,vI m,vB o,vT]] [] [] func117 rfl (by kernel_rfl) rfl rfl trivial<|bP aa 2 0 rfl<|aJ aa rfl (fun h=>⟨rfl,h.ex⟩)
theorem ab7 (w:World) (m:Int) (o:Bool) :A0f 117 #[.agg #[.bool true,.int .i64 m,.bool o,.bool false]] w (.bool (K3 4 true m o false)):=by exact aC (n:=9) [.a [vT,vI m,vB o,vF]] [] [] func117 rfl (by kernel_rfl) rfl rfl trivial<|bP aa 2 0 rfl<|aJ aa rfl (fun h=>⟨rfl,h.ex⟩)
theorem aeL (w:World) (m:Int) (o g:Bool) :A0f 117 #[.agg #[.bool false,.int .i64 m,.bool o,.bool g]] w (.bool (K3 4 false m o g)):=by exact aC (n:=9) [.a [vF,vI m,vB o,vB g]] [] [] func117 rfl (by kernel_rfl) rfl rfl trivial<|bP aa 2 0 rfl<|aJ aa rfl (fun h=>⟨rfl,h.ex⟩)
theorem RI (w:World) (a:Bool) (m:Int) (o g:Bool) :A0f 111 #[.agg #[.bool a,.int .i64 m,.bool o,.bool g]] w (.bool (K3 0 a m o g)):=by
 rcases Int.lt_trichotomy m 0 with hm | hm | hm
 · exact aeG w a m o g hm
 · exact aeF w a m o g hm
 · exact aeE w a m o g hm
theorem RJ (w:World) (a:Bool) (m:Int) (o g:Bool) :A0f 112 #[.agg #[.bool a,.int .i64 m,.bool o,.bool g]] w (.bool (K3 1 a m o g)):=by
 by_cases hm:0≤m
 · exact aeH w a m o g hm
 · exact aeI w a m o g hm
theorem RL (w:World) (a:Bool) (m:Int) (o g:Bool) :A0f 113 #[.agg #[.bool a,.int .i64 m,.bool o,.bool g]] w (.bool (K3 2 a m o g)):=by exact aeJ w a m o g
theorem RN (w:World) (a:Bool) (m:Int) (o g:Bool) :A0f 115 #[.agg #[.bool a,.int .i64 m,.bool o,.bool g]] w (.bool (K3 3 a m o g)):=by
 cases a
 · exact aeK w m o g
 · cases g
   · exact ab5 w m o
   · exact ab4 w m o
theorem RO (w:World) (a:Bool) (m:Int) (o g:Bool) :A0f 117 #[.agg #[.bool a,.int .i64 m,.bool o,.bool g]] w (.bool (K3 4 a m o g)):=by
 cases a
 · exact aeL w m o g
 · cases g
   · exact ab7 w m o
   · exact ab6 w m o
theorem ER (w:World) (n:Bool) :A0f 110 #[.bool n] w (.bool true):=by exact aC (n:=3) [vB n] [] [] func110 rfl (by kernel_rfl) rfl rfl trivial<|bP aa 2 0 rfl<|aJ aa rfl (fun h=>⟨rfl,h.ex⟩)
theorem Oc (w:World) (n:Bool) :A0f 114 #[.bool n] w (.bool false):=by exact aC (n:=3) [vB n] [] [] func114 rfl (by kernel_rfl) rfl rfl trivial<|bP aa 2 0 rfl<|aJ aa rfl (fun h=>⟨rfl,h.ex⟩)
theorem Od (w:World) (n:Bool) :A0f 118 #[.bool n] w (.bool n):=by exact aC (n:=4) [vB n] [] [] func118 rfl (by kernel_rfl) rfl rfl trivial<|bP aa 2 0 rfl<|aJ aa rfl (fun h=>⟨rfl,h.ex⟩)
theorem ab8 (w:World) :A0f 116 #[.bool true] w (.bool false):=by exact aC (n:=5) [vT] [] [] func116 rfl (by kernel_rfl) rfl rfl trivial<|aD aa 1 0 rfl<|bf (.bool false) rfl (fun X=>aN _ X)<|aL aa 0 0 rfl<|aJ aa rfl (fun h=>⟨rfl,h.ex⟩)
theorem ab9 (w:World) :A0f 116 #[.bool false] w (.bool true):=by exact aC (n:=5) [vF] [] [] func116 rfl (by kernel_rfl) rfl rfl trivial<|aD aa 1 0 rfl<|bf (.bool true) rfl (fun X=>aN _ X)<|aL aa 0 0 rfl<|aJ aa rfl (fun h=>⟨rfl,h.ex⟩)
theorem Oe (w:World) (n:Bool) :A0f 116 #[.bool n] w (.bool (!n)):=by
 cases n
 · exact ab9 w
 · exact ab8 w
theorem sF (w:World) :A0f 69 #[] w (.agg #[.func (.func 111) #[] #[],.func (.func 110) #[] #[],.func (.func 112) #[] #[],.func (.func 110) #[] #[],.func (.func 113) #[] #[],.func (.func 114) #[] #[],.func (.func 115) #[] #[],.func (.func 116) #[] #[],.func (.func 117) #[] #[],.func (.func 118) #[] #[]]):=by exact aC (n:=10) [] [] [] func69 rfl (by kernel_rfl) rfl rfl trivial<|aD aa 2 0 rfl<|gI (.a [vC 111,vC 110]) rfl rfl rfl (fun _ _=>rfl) (fun α γ X=>by kernel_rfl)<|aF aa 1 rfl<|gI (.a [vC 112,vC 110]) rfl rfl rfl (fun _ _=>rfl) (fun α γ X=>by kernel_rfl)<|gI (.a [vC 113,vC 114]) rfl rfl rfl (fun _ _=>rfl) (fun α γ X=>by kernel_rfl)<|gI (.a [vC 115,vC 116]) rfl rfl rfl (fun _ _=>rfl) (fun α γ X=>by kernel_rfl)<|gI (.a [vC 117,vC 118]) rfl rfl rfl (fun _ _=>rfl) (fun α γ X=>by kernel_rfl)<|gI (.a [vC 111,vC 110,vC 112,vC 110,vC 113,vC 114,vC 115,vC 116,vC 117,vC 118]) rfl rfl rfl (fun _ _=>rfl) (fun α γ X=>by kernel_rfl)<|aL aa 0 1 rfl<|aJ aa rfl (fun h=>⟨rfl,h.ex⟩)
theorem ES (w:World) (va:Value) (q:Rat) (L M:Nat) (ha:Qn w va q L M) :A0f 70 #[va] w (.int .i64 (Int.sign (Rat.num q))):=by obtain ⟨Aa,ca,Ba,ba,rfl,ua,ta,za,ya⟩:=ha;exact aC (n:=6) [.a [.c 0 0,.c 0 1,.c 0 2]] [[_,_,_]] [(0,(fG q L M).S)] func70 rfl (by kernel_rfl) rfl rfl ⟨RS.in ⟨Aa,ca,Ba,ba,rfl,ua,ta,za,ya⟩,trivial⟩<|aD aa 1 0 rfl<|ak 1 rfl (fun h=>aH 1 (Qe _ _ (Rat.num q) (bL (h.r 0 rfl)).1 _ rfl))<|aL aa 0 1 rfl<|aJ aa rfl (fun h=>⟨rfl,h.ex⟩)
theorem LH (w:World) (va:Value) (q:Rat) (ha:Qn w va q 9 9) (b p:Nat) (lo hi:Int) (hf:gV b p lo hi) :A0f 71 #[va,A0b b p lo hi] w (.int .i64 (TG b p q)):=by
 rcases hf.r with rfl | rfl
 · exact YJ w va q ha p lo hi hf
 · exact Ut w va q ha p lo hi hf
