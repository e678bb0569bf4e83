/- Directions: is one added? -/
import Derived.Test.YtdpmbgomcjnohaaGreatDoorBax

namespace Go.Proofs.YtdpmbgomcjnohaaGreatDoor
open Go.RowKit 
set_option linter.all false
set_option maxRecDepth 100000
set_option maxHeartbeats 8000000
def fid (j:Nat):Nat:=match j with | 0 => 120 | 1 => 121 | 2 => 122 | 3 => 123 | _ => 124
def aag (N1 N2 j:Nat):List Value:=match j with | 0=>[] | 1=>[] | 2=>[.pointer (some ⟨N1,0,none⟩)] | 3=>[.pointer (some ⟨N1,0,none⟩)] | _=>[.pointer (some ⟨N2,0,none⟩)]
def U2 (N1 N2 j:Nat):Value:=.func (.func (fid j)) #[] (aag N1 N2 j).toArray
def adX (N1 N2:Nat):List Value:=[.func (.func 120) #[] #[],.func (.func 121) #[] #[],.func (.func 122) #[] #[.pointer (some ⟨N1,0,none⟩)],.func (.func 123) #[] #[.pointer (some ⟨N1,0,none⟩)],.func (.func 124) #[] #[.pointer (some ⟨N2,0,none⟩)]]
theorem KQ (j:Nat) (hj:j<5) (u:Array Value) (X:World):(callFunc (fid j) u).run Tryz.prog X = .ok (.enter (fid j) u) X:=by
 match j,hj with
 | 0,_=>exact Pl.enters Tryz.func120 (by kernel_rfl) rfl u X
 | 1,_=>exact Pl.enters Tryz.func121 (by kernel_rfl) rfl u X
 | 2,_=>exact Pl.enters Tryz.func122 (by kernel_rfl) rfl u X
 | 3,_=>exact Pl.enters Tryz.func123 (by kernel_rfl) rfl u X
 | 4,_=>exact Pl.enters Tryz.func124 (by kernel_rfl) rfl u X
def XW (j:Nat) (q:Int) (ab:Bool) (k:Int):Bool:=match j with | 0=>false | 1=>ab | 2=>ab&&decide (q<0) | 3=>ab&&!decide (q<0) | _=>decide (0<k)||(decide (k=0)&&decide (q%2=1))
theorem aah {q:Int}:(q.natAbs%4294967296)&&&1=q.natAbs%2:=by rw [Nat.and_one_is_mod];omega
theorem zx (w:World) (ab:Bool) (A:Option Addr) (c:Nat) (q:Int) (uq:Un w (.slice A (limbs q.natAbs).length c) q.natAbs) (k:Int) :
  Calls Tryz.prog 118 #[.agg #[.bool (decide (q<0)),.slice A (limbs (Int.natAbs q)).length c,.bool ab,.int .i64 k]] w fun e w'=>e = .returned (.bool (decide (q<0)))∧Pl.Ex w w':=by
 refine Pl.aN (n:=6) (vs:=[.agg #[.bool (decide (q<0)),.slice A (limbs (Int.natAbs q)).length c,.bool ab,.int .i64 k]]) Tryz.func118 rfl (by kernel_rfl) (by simp) ?_
 repeat refine Pl.af ?_
 refine Pl.ah (by kernel_rfl) ?_
 refine Pl.bF (cs:=[.bool (decide (q<0)),.slice A (limbs (Int.natAbs q)).length c,.bool ab,.int .i64 k]) rfl rfl rfl rfl rfl rfl (fun Y hY=>trivial) ?_
 intro N1 w1 hE1 bT ak
 have dP:=Pl.Cb.lt ak
 have jC:=Pl.Ex.size hE1
 refine Pl.aG trivial rfl ?_
 refine Pl.aj ?_
 repeat refine Pl.af ?_
 refine Pl.ah (by kernel_rfl) ?_
 refine Pl.aL (.pointer (some ⟨N1,0,none⟩)) trivial rfl rfl rfl rfl (fun X=>by kernel_rfl) ?_
 refine Pl.aL (.pointer (some ⟨N1,0,none⟩)) trivial rfl rfl rfl rfl (fun X=>by kernel_rfl) ?_
 refine Pl.bD (v:=.bool (decide (q<0))) Tryz.underlying4 rfl (Pl.Cb.at (j:=0) ak rfl) trivial rfl rfl rfl rfl rfl ?_
 refine Pl.aG trivial rfl ?_
 refine Pl.aj ?_
 repeat refine Pl.af ?_
 exact Pl.aZ rfl rfl  (⟨rfl,hE1⟩)
theorem NQ (w:World) (ab:Bool) (A:Option Addr) (c:Nat) (q:Int) (uq:Un w (.slice A (limbs q.natAbs).length c) q.natAbs) (k:Int) :
  Calls Tryz.prog 119 #[.agg #[.bool (decide (q<0)),.slice A (limbs (Int.natAbs q)).length c,.bool ab,.int .i64 k]] w fun e w'=>e = .returned (.bool (decide (q%2=1)))∧Pl.Ex w w':=by
 refine Pl.aN (n:=17) (vs:=[.agg #[.bool (decide (q<0)),.slice A (limbs (Int.natAbs q)).length c,.bool ab,.int .i64 k]]) Tryz.func119 rfl (by kernel_rfl) (by simp) ?_
 repeat refine Pl.af ?_
 refine Pl.ah (by kernel_rfl) ?_
 refine Pl.bF (cs:=[.bool (decide (q<0)),.slice A (limbs (Int.natAbs q)).length c,.bool ab,.int .i64 k]) rfl rfl rfl rfl rfl rfl (fun Y hY=>trivial) ?_
 intro N1 w1 hE1 bT ak
 have dP:=Pl.Cb.lt ak
 have jC:=Pl.Ex.size hE1
 refine Pl.aG trivial rfl ?_
 refine Pl.aj ?_
 repeat refine Pl.af ?_
 refine Pl.ah (by kernel_rfl) ?_
 refine Pl.aL (.pointer (some ⟨N1,0,none⟩)) trivial rfl rfl rfl rfl (fun X=>by kernel_rfl) ?_
 refine Pl.aL (.pointer (some ⟨N1,1,none⟩)) trivial rfl rfl rfl rfl (fun X=>by kernel_rfl) ?_
 refine Pl.bD (v:=.slice A (limbs (Int.natAbs q)).length c) Tryz.underlying22 rfl (Pl.Cb.at (j:=1) ak rfl) trivial rfl rfl rfl rfl rfl ?_
 refine Pl.su Tryz.underlying22 trivial rfl rfl rfl rfl rfl ?_
 by_cases c2:((limbs (Int.natAbs q)).length)>0
 · refine Pl.bP (v:=.bool true) (fun X=>Pl.Bw (decide_eq_true (by omega)) X) trivial rfl rfl rfl rfl rfl rfl ?_
   refine Pl.aG trivial rfl ?_
   refine Pl.aL (.pointer (some ⟨N1,0,none⟩)) trivial rfl rfl rfl rfl (fun X=>by kernel_rfl) ?_
   refine Pl.aL (.pointer (some ⟨N1,1,none⟩)) trivial rfl rfl rfl rfl (fun X=>by kernel_rfl) ?_
   refine Pl.bD (v:=.slice A (limbs (Int.natAbs q)).length c) Tryz.underlying22 rfl (Pl.Cb.at (j:=1) ak rfl) trivial rfl rfl rfl rfl rfl ?_
   have hq0:q.natAbs≠0:=fun h9=>absurd (kC.2 h9) (by omega)
   obtain ⟨ad,hA1,hcell⟩:=Hy uq (i:=0) (by omega)
   subst hA1
   refine Pl.Hz (s:=1) (j:=0) Tryz.underlying22 (by kernel_rfl) rfl (by omega) trivial rfl rfl rfl rfl rfl rfl ?_
   refine Pl.bD (v:=.int .u32 (((q.natAbs%4294967296):Nat):Int)) Tryz.underlying67 rfl (xu (Un.below uq hE1) hq0) trivial rfl rfl rfl rfl rfl ?_
   refine Pl.bP (v:=.int .u32 (((q.natAbs%2):Nat):Int)) (fun X=>FC aah (by omega) (by decide) X) trivial rfl rfl rfl rfl rfl rfl ?_
   by_cases c3:(q.natAbs%2)=1
   · refine Pl.bP (v:=.bool true) (fun X=>Pl.gW (Pl.e_t (by omega)) X) trivial rfl rfl rfl rfl rfl rfl ?_
     refine Pl.aG trivial rfl ?_
     refine Pl.aj ?_
     repeat refine Pl.af ?_
     exact Pl.aZ rfl rfl  (⟨by rw [decide_eq_true (show q%2=1 by have:=c3;omega)],hE1⟩)
   · refine Pl.bP (v:=.bool false) (fun X=>Pl.gW (Pl.e_f (by omega)) X) trivial rfl rfl rfl rfl rfl rfl ?_
     refine Pl.aG trivial rfl ?_
     refine Pl.aj ?_
     repeat refine Pl.af ?_
     exact Pl.aZ rfl rfl  (⟨by rw [decide_eq_false (show ¬ q%2=1 by have:=c3;omega)],hE1⟩)
 · refine Pl.bP (v:=.bool false) (fun X=>Pl.Bw (decide_eq_false (by omega)) X) trivial rfl rfl rfl rfl rfl rfl ?_
   refine Pl.aG trivial rfl ?_
   refine Pl.aj ?_
   repeat refine Pl.af ?_
   exact Pl.aZ rfl rfl  (⟨by rw [decide_eq_false (show ¬ q%2=1 by have:=kC.1 (show (limbs q.natAbs).length=0 by omega);omega)],hE1⟩)
theorem NR (w:World) (ab:Bool) (A:Option Addr) (c:Nat) (q:Int) (uq:Un w (.slice A (limbs q.natAbs).length c) q.natAbs) (k:Int) :
  Calls Tryz.prog 120 #[.agg #[.bool (decide (q<0)),.slice A (limbs (Int.natAbs q)).length c,.bool ab,.int .i64 k]] w fun e w'=>e = .returned (.bool false)∧Pl.Ex w w':=by
 refine Pl.aN (n:=3) (vs:=[.agg #[.bool (decide (q<0)),.slice A (limbs (Int.natAbs q)).length c,.bool ab,.int .i64 k]]) Tryz.func120 rfl (by kernel_rfl) (by simp) ?_
 repeat refine Pl.af ?_
 refine Pl.ah (by kernel_rfl) ?_
 refine Pl.bF (cs:=[.bool (decide (q<0)),.slice A (limbs (Int.natAbs q)).length c,.bool ab,.int .i64 k]) rfl rfl rfl rfl rfl rfl (fun Y hY=>trivial) ?_
 intro N1 w1 hE1 bT ak
 have dP:=Pl.Cb.lt ak
 have jC:=Pl.Ex.size hE1
 refine Pl.aG trivial rfl ?_
 refine Pl.aj ?_
 repeat refine Pl.af ?_
 refine Pl.ah (by kernel_rfl) ?_
 refine Pl.aG trivial rfl ?_
 refine Pl.aj ?_
 repeat refine Pl.af ?_
 exact Pl.aZ rfl rfl  (⟨rfl,hE1⟩)
theorem NS (w:World) (ab:Bool) (A:Option Addr) (c:Nat) (q:Int) (uq:Un w (.slice A (limbs q.natAbs).length c) q.natAbs) (k:Int) :
  Calls Tryz.prog 121 #[.agg #[.bool (decide (q<0)),.slice A (limbs (Int.natAbs q)).length c,.bool ab,.int .i64 k]] w fun e w'=>e = .returned (.bool ab)∧Pl.Ex w w':=by
 refine Pl.aN (n:=5) (vs:=[.agg #[.bool (decide (q<0)),.slice A (limbs (Int.natAbs q)).length c,.bool ab,.int .i64 k]]) Tryz.func121 rfl (by kernel_rfl) (by simp) ?_
 repeat refine Pl.af ?_
 refine Pl.ah (by kernel_rfl) ?_
 refine Pl.bF (cs:=[.bool (decide (q<0)),.slice A (limbs (Int.natAbs q)).length c,.bool ab,.int .i64 k]) rfl rfl rfl rfl rfl rfl (fun Y hY=>trivial) ?_
 intro N1 w1 hE1 bT ak
 have dP:=Pl.Cb.lt ak
 have jC:=Pl.Ex.size hE1
 refine Pl.aG trivial rfl ?_
 refine Pl.aj ?_
 repeat refine Pl.af ?_
 refine Pl.ah (by kernel_rfl) ?_
 refine Pl.aL (.pointer (some ⟨N1,2,none⟩)) trivial rfl rfl rfl rfl (fun X=>by kernel_rfl) ?_
 refine Pl.bD (v:=.bool ab) Tryz.underlying4 rfl (Pl.Cb.at (j:=2) ak rfl) trivial rfl rfl rfl rfl rfl ?_
 refine Pl.aG trivial rfl ?_
 refine Pl.aj ?_
 repeat refine Pl.af ?_
 exact Pl.aZ rfl rfl  (⟨rfl,hE1⟩)
theorem aai (w:World) (Na:Nat) (ka:Pl.Cb w Na 90 [.func (.func 118) #[] #[]]) (A:Option Addr) (c:Nat) (q:Int) (uq:Un w (.slice A (limbs q.natAbs).length c) q.natAbs) (k:Int) :
  Calls Tryz.prog 122 #[.agg #[.bool (decide (q<0)),.slice A (limbs (Int.natAbs q)).length c,.bool true,.int .i64 k],.pointer (some ⟨Na,0,none⟩)] w fun e w'=>e = .returned (.bool (decide (q<0)))∧Pl.Ex w w':=by
 refine Pl.aN (n:=11) (vs:=[.agg #[.bool (decide (q<0)),.slice A (limbs (Int.natAbs q)).length c,.bool true,.int .i64 k],.pointer (some ⟨Na,0,none⟩)]) Tryz.func122 rfl (by kernel_rfl) (by simp) ?_
 repeat refine Pl.af ?_
 refine Pl.ah (by kernel_rfl) ?_
 refine Pl.bF (cs:=[.bool (decide (q<0)),.slice A (limbs (Int.natAbs q)).length c,.bool true,.int .i64 k]) rfl rfl rfl rfl rfl rfl (fun Y hY=>trivial) ?_
 intro N1 w1 hE1 bT ak
 have dP:=Pl.Cb.lt ak
 have jC:=Pl.Ex.size hE1
 refine Pl.aG trivial rfl ?_
 refine Pl.aj ?_
 repeat refine Pl.af ?_
 refine Pl.ah (by kernel_rfl) ?_
 refine Pl.aL (.pointer (some ⟨N1,2,none⟩)) trivial rfl rfl rfl rfl (fun X=>by kernel_rfl) ?_
 refine Pl.bD (v:=.bool true) Tryz.underlying4 rfl (Pl.Cb.at (j:=2) ak rfl) trivial rfl rfl rfl rfl rfl ?_
 refine Pl.aG trivial rfl ?_
 refine Pl.bD (v:=.func (.func 118) #[] #[]) Tryz.underlying90 rfl (Pl.Cb.at (j:=0) (Pl.Cb.ex ka hE1) rfl) trivial rfl rfl rfl rfl rfl ?_
 refine Pl.bg (part:=[.bool (decide (q<0)),.slice A (limbs (Int.natAbs q)).length c,.bool true,.int .i64 k]) ak rfl Tryz.underlying116 rfl (by kernel_rfl) trivial rfl rfl rfl rfl rfl ?_
 refine Pl.oC rfl rfl rfl rfl rfl rfl (fun u X=>Pl.enters Tryz.func118 (by kernel_rfl) rfl u X) ?_
 refine Calls.mono (zx _ true A c q (Un.below uq hE1) k) ?_
 rintro e w2 ⟨rfl,hE2⟩
 have jM:=Pl.Ex.size hE2
 refine ⟨_,rfl,trivial,?_⟩
 refine Pl.aG trivial rfl ?_
 refine Pl.aj ?_
 repeat refine Pl.af ?_
 exact Pl.aZ rfl rfl  (⟨rfl,(Pl.Ex.trans hE1 hE2)⟩)
theorem aaj (w:World) (Na:Nat) (ka:Pl.Cb w Na 90 [.func (.func 118) #[] #[]]) (A:Option Addr) (c:Nat) (q:Int) (uq:Un w (.slice A (limbs q.natAbs).length c) q.natAbs) (k:Int) :
  Calls Tryz.prog 122 #[.agg #[.bool (decide (q<0)),.slice A (limbs (Int.natAbs q)).length c,.bool false,.int .i64 k],.pointer (some ⟨Na,0,none⟩)] w fun e w'=>e = .returned (.bool false)∧Pl.Ex w w':=by
 refine Pl.aN (n:=11) (vs:=[.agg #[.bool (decide (q<0)),.slice A (limbs (Int.natAbs q)).length c,.bool false,.int .i64 k],.pointer (some ⟨Na,0,none⟩)]) Tryz.func122 rfl (by kernel_rfl) (by simp) ?_
 repeat refine Pl.af ?_
 refine Pl.ah (by kernel_rfl) ?_
 refine Pl.bF (cs:=[.bool (decide (q<0)),.slice A (limbs (Int.natAbs q)).length c,.bool false,.int .i64 k]) rfl rfl rfl rfl rfl rfl (fun Y hY=>trivial) ?_
 intro N1 w1 hE1 bT ak
 have dP:=Pl.Cb.lt ak
 have jC:=Pl.Ex.size hE1
 refine Pl.aG trivial rfl ?_
 refine Pl.aj ?_
 repeat refine Pl.af ?_
 refine Pl.ah (by kernel_rfl) ?_
 refine Pl.aL (.pointer (some ⟨N1,2,none⟩)) trivial rfl rfl rfl rfl (fun X=>by kernel_rfl) ?_
 refine Pl.bD (v:=.bool false) Tryz.underlying4 rfl (Pl.Cb.at (j:=2) ak rfl) trivial rfl rfl rfl rfl rfl ?_
 refine Pl.aG trivial rfl ?_
 refine Pl.aj ?_
 repeat refine Pl.af ?_
 exact Pl.aZ rfl rfl  (⟨rfl,hE1⟩)
theorem aak (w:World) (Na:Nat) (ka:Pl.Cb w Na 90 [.func (.func 118) #[] #[]]) (A:Option Addr) (c:Nat) (q:Int) (uq:Un w (.slice A (limbs q.natAbs).length c) q.natAbs) (k:Int) :
  Calls Tryz.prog 123 #[.agg #[.bool (decide (q<0)),.slice A (limbs (Int.natAbs q)).length c,.bool true,.int .i64 k],.pointer (some ⟨Na,0,none⟩)] w fun e w'=>e = .returned (.bool (!decide (q<0)))∧Pl.Ex w w':=by
 refine Pl.aN (n:=12) (vs:=[.agg #[.bool (decide (q<0)),.slice A (limbs (Int.natAbs q)).length c,.bool true,.int .i64 k],.pointer (some ⟨Na,0,none⟩)]) Tryz.func123 rfl (by kernel_rfl) (by simp) ?_
 repeat refine Pl.af ?_
 refine Pl.ah (by kernel_rfl) ?_
 refine Pl.bF (cs:=[.bool (decide (q<0)),.slice A (limbs (Int.natAbs q)).length c,.bool true,.int .i64 k]) rfl rfl rfl rfl rfl rfl (fun Y hY=>trivial) ?_
 intro N1 w1 hE1 bT ak
 have dP:=Pl.Cb.lt ak
 have jC:=Pl.Ex.size hE1
 refine Pl.aG trivial rfl ?_
 refine Pl.aj ?_
 repeat refine Pl.af ?_
 refine Pl.ah (by kernel_rfl) ?_
 refine Pl.aL (.pointer (some ⟨N1,2,none⟩)) trivial rfl rfl rfl rfl (fun X=>by kernel_rfl) ?_
 refine Pl.bD (v:=.bool true) Tryz.underlying4 rfl (Pl.Cb.at (j:=2) ak rfl) trivial rfl rfl rfl rfl rfl ?_
 refine Pl.aG trivial rfl ?_
 refine Pl.bD (v:=.func (.func 118) #[] #[]) Tryz.underlying90 rfl (Pl.Cb.at (j:=0) (Pl.Cb.ex ka hE1) rfl) trivial rfl rfl rfl rfl rfl ?_
 refine Pl.bg (part:=[.bool (decide (q<0)),.slice A (limbs (Int.natAbs q)).length c,.bool true,.int .i64 k]) ak rfl Tryz.underlying116 rfl (by kernel_rfl) trivial rfl rfl rfl rfl rfl ?_
 refine Pl.oC rfl rfl rfl rfl rfl rfl (fun u X=>Pl.enters Tryz.func118 (by kernel_rfl) rfl u X) ?_
 refine Calls.mono (zx _ true A c q (Un.below uq hE1) k) ?_
 rintro e w2 ⟨rfl,hE2⟩
 have jM:=Pl.Ex.size hE2
 refine ⟨_,rfl,trivial,?_⟩
 refine Pl.qb (v:=.bool (!(decide (q<0)))) trivial rfl rfl rfl rfl rfl (fun X=>rfl) ?_
 refine Pl.aG trivial rfl ?_
 refine Pl.aj ?_
 repeat refine Pl.af ?_
 exact Pl.aZ rfl rfl  (⟨rfl,(Pl.Ex.trans hE1 hE2)⟩)
theorem aal (w:World) (Na:Nat) (ka:Pl.Cb w Na 90 [.func (.func 118) #[] #[]]) (A:Option Addr) (c:Nat) (q:Int) (uq:Un w (.slice A (limbs q.natAbs).length c) q.natAbs) (k:Int) :
  Calls Tryz.prog 123 #[.agg #[.bool (decide (q<0)),.slice A (limbs (Int.natAbs q)).length c,.bool false,.int .i64 k],.pointer (some ⟨Na,0,none⟩)] w fun e w'=>e = .returned (.bool false)∧Pl.Ex w w':=by
 refine Pl.aN (n:=12) (vs:=[.agg #[.bool (decide (q<0)),.slice A (limbs (Int.natAbs q)).length c,.bool false,.int .i64 k],.pointer (some ⟨Na,0,none⟩)]) Tryz.func123 rfl (by kernel_rfl) (by simp) ?_
 repeat refine Pl.af ?_
 refine Pl.ah (by kernel_rfl) ?_
 refine Pl.bF (cs:=[.bool (decide (q<0)),.slice A (limbs (Int.natAbs q)).length c,.bool false,.int .i64 k]) rfl rfl rfl rfl rfl rfl (fun Y hY=>trivial) ?_
 intro N1 w1 hE1 bT ak
 have dP:=Pl.Cb.lt ak
 have jC:=Pl.Ex.size hE1
 refine Pl.aG trivial rfl ?_
 refine Pl.aj ?_
 repeat refine Pl.af ?_
 refine Pl.ah (by kernel_rfl) ?_
 refine Pl.aL (.pointer (some ⟨N1,2,none⟩)) trivial rfl rfl rfl rfl (fun X=>by kernel_rfl) ?_
 refine Pl.bD (v:=.bool false) Tryz.underlying4 rfl (Pl.Cb.at (j:=2) ak rfl) trivial rfl rfl rfl rfl rfl ?_
 refine Pl.aG trivial rfl ?_
 refine Pl.aj ?_
 repeat refine Pl.af ?_
 exact Pl.aZ rfl rfl  (⟨rfl,hE1⟩)
theorem NT (w:World) (Na:Nat) (ka:Pl.Cb w Na 90 [.func (.func 119) #[] #[]]) (ab:Bool) (A:Option Addr) (c:Nat) (q:Int) (uq:Un w (.slice A (limbs q.natAbs).length c) q.natAbs) (k:Int) :
  Calls Tryz.prog 124 #[.agg #[.bool (decide (q<0)),.slice A (limbs (Int.natAbs q)).length c,.bool ab,.int .i64 k],.pointer (some ⟨Na,0,none⟩)] w fun e w'=>e = .returned (.bool (decide (0<k)||(decide (k=0)&&decide (q%2=1))))∧Pl.Ex w w':=by
 refine Pl.aN (n:=17) (vs:=[.agg #[.bool (decide (q<0)),.slice A (limbs (Int.natAbs q)).length c,.bool ab,.int .i64 k],.pointer (some ⟨Na,0,none⟩)]) Tryz.func124 rfl (by kernel_rfl) (by simp) ?_
 repeat refine Pl.af ?_
 refine Pl.ah (by kernel_rfl) ?_
 refine Pl.bF (cs:=[.bool (decide (q<0)),.slice A (limbs (Int.natAbs q)).length c,.bool ab,.int .i64 k]) rfl rfl rfl rfl rfl rfl (fun Y hY=>trivial) ?_
 intro N1 w1 hE1 bT ak
 have dP:=Pl.Cb.lt ak
 have jC:=Pl.Ex.size hE1
 refine Pl.aG trivial rfl ?_
 refine Pl.aj ?_
 repeat refine Pl.af ?_
 refine Pl.ah (by kernel_rfl) ?_
 refine Pl.aL (.pointer (some ⟨N1,3,none⟩)) trivial rfl rfl rfl rfl (fun X=>by kernel_rfl) ?_
 refine Pl.bD (v:=.int .i64 k) Tryz.underlying3 rfl (Pl.Cb.at (j:=3) ak rfl) trivial rfl rfl rfl rfl rfl ?_
 by_cases c2:k>0
 · refine Pl.bP (v:=.bool true) (fun X=>sF c2 X) trivial rfl rfl rfl rfl rfl rfl ?_
   refine Pl.aG trivial rfl ?_
   refine Pl.aj ?_
   repeat refine Pl.af ?_
   exact Pl.aZ rfl rfl  (⟨by simp [show 0<k by omega],hE1⟩)
 · refine Pl.bP (v:=.bool false) (fun X=>BU c2 X) trivial rfl rfl rfl rfl rfl rfl ?_
   refine Pl.aG trivial rfl ?_
   refine Pl.aL (.pointer (some ⟨N1,3,none⟩)) trivial rfl rfl rfl rfl (fun X=>by kernel_rfl) ?_
   refine Pl.bD (v:=.int .i64 k) Tryz.underlying3 rfl (Pl.Cb.at (j:=3) ak rfl) trivial rfl rfl rfl rfl rfl ?_
   by_cases c3:k=0
   · refine Pl.bP (v:=.bool true) (fun X=>ed c3 X) trivial rfl rfl rfl rfl rfl rfl ?_
     refine Pl.aG trivial rfl ?_
     refine Pl.bD (v:=.func (.func 119) #[] #[]) Tryz.underlying90 rfl (Pl.Cb.at (j:=0) (Pl.Cb.ex ka hE1) rfl) trivial rfl rfl rfl rfl rfl ?_
     refine Pl.bg (part:=[.bool (decide (q<0)),.slice A (limbs (Int.natAbs q)).length c,.bool ab,.int .i64 k]) ak rfl Tryz.underlying116 rfl (by kernel_rfl) trivial rfl rfl rfl rfl rfl ?_
     refine Pl.oC rfl rfl rfl rfl rfl rfl (fun u X=>Pl.enters Tryz.func119 (by kernel_rfl) rfl u X) ?_
     refine Calls.mono (NQ _ ab A c q (Un.below uq hE1) k) ?_
     rintro e w2 ⟨rfl,hE2⟩
     have jM:=Pl.Ex.size hE2
     refine ⟨_,rfl,trivial,?_⟩
     refine Pl.aG trivial rfl ?_
     refine Pl.aj ?_
     repeat refine Pl.af ?_
     exact Pl.aZ rfl rfl  (⟨by simp [show ¬ (0<k) by omega,show k=0 by omega],(Pl.Ex.trans hE1 hE2)⟩)
   · refine Pl.bP (v:=.bool false) (fun X=>jB c3 X) trivial rfl rfl rfl rfl rfl rfl ?_
     refine Pl.aG trivial rfl ?_
     refine Pl.aj ?_
     repeat refine Pl.af ?_
     exact Pl.aZ rfl rfl  (⟨by simp [show ¬ (0<k) by omega,show ¬ (k=0) by omega],hE1⟩)
theorem IL (w:World) (j:Nat) (hj:j<5) (N1 N2:Nat) (k1:Pl.Cb w N1 90 [.func (.func 118) #[] #[]]) (k2:Pl.Cb w N2 90 [.func (.func 119) #[] #[]]) (ab:Bool) (A:Option Addr) (c:Nat) (q:Int) (uq:Un w (.slice A (limbs q.natAbs).length c) q.natAbs) (k:Int) :
  Calls Tryz.prog (fid j) ([]++([Value.agg #[.bool (decide (q<0)),.slice A (limbs (Int.natAbs q)).length c,.bool ab,.int .i64 k]]++aag N1 N2 j)).toArray w fun e w'=>e = .returned (.bool (XW j q ab k))∧Pl.Ex w w':=by
 match j,hj with
 | 0,_=>exact NR w ab A c q uq k
 | 1,_=>exact NS w ab A c q uq k
 | 2, _ => cases ab
           · exact aaj w N1 k1 A c q uq k
           · exact aai w N1 k1 A c q uq k
 | 3, _ => cases ab
           · exact aal w N1 k1 A c q uq k
           · exact aak w N1 k1 A c q uq k
 | 4,_=>exact NT w N2 k2 ab A c q uq k
end Go.Proofs.YtdpmbgomcjnohaaGreatDoor
