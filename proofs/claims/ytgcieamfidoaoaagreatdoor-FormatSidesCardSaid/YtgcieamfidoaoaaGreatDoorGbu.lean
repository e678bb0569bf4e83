/- Base. -/
import Derived.Test.YtgcieamfidoaoaaGreatDoorGav
set_option linter.all false
set_option maxHeartbeats 8000000
set_option maxRecDepth 100000
namespace Go.Proofs.YtgcieamfidoaoaaGreatDoor
open Go.Proofs.Tryz
open Go.RowKit
section
open Go.ChangeShapes Go.WideShapes Go.ChangeAt
theorem WM:prog.cellsOf 34 = 2:=by kernel_rfl
theorem OU:prog.cellsOf 24 = 1:=by kernel_rfl
theorem ac6 {H:Type} {enc:TypeId × Value→H} {W:World} {m:Nat} {c0 c1:Value} {y:DataW H × List MemPlace} (h:DataW.trod enc prog W 0 (fun _=>true) true m 34 [c0,c1]=some y) :∃ (s:Bool) (A:Option Addr) (c:Nat) (xs:List Nat),c0 = .bool s∧c1 = .slice A xs.length c∧U W (.slice A xs.length c) xs:=by
 obtain ⟨ys,n,_,rfl,hl,hlen,hf⟩:=DataW.trod_struct underlying34 h;match ys,hlen,hf with
 | [y0,y1],_,hf =>
  have h0:=hf 0 _ rfl;have h1:=hf 1 _ rfl;have cb:prog.cellsOf 4 = 1:=by kernel_rfl
  simp [OU,cb] at h0 h1;obtain ⟨s,e0,_⟩:=DataW.trod_bool underlying4 h0;obtain ⟨xs,u⟩:=xI h1;obtain ⟨A,c,rfl,hu⟩:=id u;simp at e0;exact ⟨s,A,c,xs,e0,rfl,u⟩
end
open Go.ChangeShapes Go.WideShapes Go.ChangeAt
theorem xY {P:Program} {k e:TypeId} {n:Nat} {W:World} (hu:P.underlying k=some (.array n e)) {r:Reach} {b0:Nat} {v:Value} (h:Value.okWide P W r b0 k v):∃ xs:Array Value,v = .agg xs∧xs.size=P.cellsOf k:=by simp only [Value.okWide,hu] at h;obtain ⟨cs,h1,h2,_⟩:=h;exact ⟨cs,h1,h2⟩
theorem Jp {z:Int} (h:(Lit.int .u8 z).wf=true):∃ n:Nat,z=(n:Int)∧n<256:=by have h1:=bounds_u8 h;obtain ⟨n,rfl⟩:=Int.eq_ofNat_of_zero_le h1.1;exact ⟨n,rfl,by omega⟩
theorem XP {H:Type} {enc:TypeId × Value→H} {W:World} {m:Nat} {c0 c1 c2 c3:Value} {y:DataW H × List MemPlace} (h:DataW.trod enc prog W 0 (fun _=>true) true m 26 [c0,c1,c2,c3]=some y) :∃ (k:Int) (n:Bool) (A:Option Addr) (c:Nat) (xs:List Nat) (e:Int),c0 = .int .i64 k∧c1 = .bool n∧c2 = .slice A xs.length c∧c3 = .int .i64 e∧U W (.slice A xs.length c) xs:=by
 obtain ⟨ys,n,_,rfl,hl,hlen,hf⟩:=DataW.trod_struct underlying26 h;match ys,hlen,hf with
 | [y0,y1,y2,y3],_,hf =>
  have h0:=hf 0 _ rfl;have h1:=hf 1 _ rfl;have h2:=hf 2 _ rfl;have h3:=hf 3 _ rfl;have cb:prog.cellsOf 4 = 1:=by kernel_rfl
  have ci:prog.cellsOf 3 = 1:=by kernel_rfl
  simp [OU,WM,cb,ci] at h0 h1 h2 h3;obtain ⟨k,e0,_⟩:=DataW.trod_int underlying3 h0;obtain ⟨s,e1,_⟩:=DataW.trod_bool underlying4 h1;obtain ⟨xs,u⟩:=xI h2;obtain ⟨A,c,rfl,hu⟩:=id u;obtain ⟨e,e3,_⟩:=DataW.trod_int underlying3 h3;simp at e0 e1 e3;exact ⟨k,s,A,c,xs,e,e0,e1,rfl,e3,u⟩
theorem Po {H:Type} {enc:TypeId × Value→H} {W:World} {m:Nat} {c0 c1 c2:Value} {y:DataW H × List MemPlace} (h:DataW.trod enc prog W 0 (fun _=>true) true m 36 [c0,c1,c2]=some y) :∃ (s:Bool) (A:Option Addr) (c:Nat) (xs:List Nat) (D:Option Addr) (d:Nat) (ys:List Nat),c0 = .bool s∧c1 = .slice A xs.length c∧c2 = .slice D ys.length d∧U W (.slice A xs.length c) xs∧U W (.slice D ys.length d) ys:=by
 obtain ⟨ys,n,_,rfl,hl,hlen,hf⟩:=DataW.trod_struct underlying36 h;match ys,hlen,hf with
 | [y0,y1],_,hf =>
  have h0:=hf 0 _ rfl;have h1:=hf 1 _ rfl;have cb:prog.cellsOf 4 = 1:=by kernel_rfl
  have ci:prog.cellsOf 3 = 1:=by kernel_rfl
  simp [OU,WM,cb,ci] at h0 h1;obtain ⟨s,A,c,xs,rfl,rfl,u⟩:=ac6 h0;obtain ⟨zs,u2⟩:=xI h1;obtain ⟨D,d,rfl,hu⟩:=id u2;exact ⟨s,A,c,xs,D,d,zs,rfl,rfl,rfl,u,u2⟩
theorem Mi {H:Type} {enc:TypeId × Value→H} {W:World} {base:Nat} {v:Value} {d:DataW H} {ps:List MemPlace} (hval:Value.okWide prog W .any base 36 v) (h:DataW.Trod enc prog W 0 (fun _=>true) true 36 v d ps) :∃ (s:Bool) (A:Option Addr) (c:Nat) (xs:List Nat) (D:Option Addr) (d:Nat) (ys:List Nat),v = .agg #[.bool s,.slice A xs.length c,.slice D ys.length d]∧U W (.slice A xs.length c) xs∧U W (.slice D ys.length d) ys:=by
 obtain ⟨cs,rfl,hsz⟩:=okWide_struct underlying36 hval;rw [show prog.cellsOf 36 = 3 by kernel_rfl] at hsz;obtain ⟨l⟩:=cs;match l,hsz with
 | [c0,c1,c2],_ =>obtain ⟨fuel,hf⟩:=h;obtain ⟨s,A,c,xs,D,d,ys,rfl,rfl,rfl,u,u2⟩:=Po hf;exact ⟨s,A,c,xs,D,d,ys,rfl,u,u2⟩
theorem Cq {H:Type} {enc:TypeId × Value→H} {W:World} {base:Nat} {v:Value} {d:DataW H} {ps:List MemPlace} (hval:Value.okWide prog W .any base 23 v) (h:DataW.Trod enc prog W 0 (fun _=>true) true 23 v d ps) :∃ (r p l h:Int),v = A0c r p l h:=by
 obtain ⟨cs,rfl,hsz⟩:=okWide_struct underlying23 hval;rw [show prog.cellsOf 23 = 4 by kernel_rfl] at hsz;obtain ⟨l⟩:=cs;match l,hsz with
 | [c0,c1,c2,c3],_ =>
  obtain ⟨fuel,hf⟩:=h;obtain ⟨ys,n,_,K4,hl,hlen,hf⟩:=DataW.trod_struct underlying23 hf;match ys,hlen,hf with
  | [y0,y1,y2,y3],_,hf =>have h0:=hf 0 _ rfl;have h1:=hf 1 _ rfl;have h2:=hf 2 _ rfl;have h3:=hf 3 _ rfl;have ci:prog.cellsOf 3 = 1:=(by kernel_rfl);simp [ci] at h0 h1 h2 h3;obtain ⟨a,e0,_⟩:=DataW.trod_int underlying3 h0;obtain ⟨b,e1,_⟩:=DataW.trod_int underlying3 h1;obtain ⟨c,e2,_⟩:=DataW.trod_int underlying3 h2;obtain ⟨d,e3,_⟩:=DataW.trod_int underlying3 h3;obtain rfl:=(List.cons.inj (show [c0]=[Value.int .i64 a] from e0)).1;obtain rfl:=(List.cons.inj (show [c1]=[Value.int .i64 b] from e1)).1;obtain rfl:=(List.cons.inj (show [c2]=[Value.int .i64 c] from e2)).1;obtain rfl:=(List.cons.inj (show [c3]=[Value.int .i64 d] from e3)).1;exact ⟨a,b,c,d,rfl⟩
theorem V9 {H:Type} {enc:TypeId × Value→H} {W:World} {base:Nat} {v:Value} {d:DataW H} {ps:List MemPlace} (hval:Value.okWide prog W .any base 27 v) (h:DataW.Trod enc prog W 0 (fun _=>true) true 27 v d ps) :∃ (k1:Int) (n1:Bool) (A1:Option Addr) (c1:Nat) (sj:List Nat) (e1:Int) (k2:Int) (n2:Bool) (A2:Option Addr) (c2:Nat) (yu:List Nat) (e2:Int),v = .agg #[.int .i64 k1,.bool n1,.slice A1 sj.length c1,.int .i64 e1,.int .i64 k2,.bool n2,.slice A2 yu.length c2,.int .i64 e2]∧U W (.slice A1 sj.length c1) sj∧U W (.slice A2 yu.length c2) yu:=by
 obtain ⟨cs,rfl,hsz⟩:=xY underlying27 hval;rw [show prog.cellsOf 27 = 8 by kernel_rfl] at hsz;obtain ⟨l⟩:=cs;match l,hsz with
 | [c0,c1,c2,c3,c4,c5,c6,c7],_ =>
  obtain ⟨fuel,hf⟩:=h;obtain ⟨ys,m1,rfl,hx1,hlen,hn,hel⟩:=DataW.trod_array underlying27 hf;simp only [show prog.cellsOf 26 = 4 by kernel_rfl] at hel;match ys,hn,hel with
  | [y0,y1],_,hel =>have e0:=hel 0 (by decide);have e1:=hel 1 (by decide);simp [Value.cells] at e0 e1;obtain ⟨k1,n1,A1,c1,sj,f1,rfl,rfl,rfl,rfl,u1⟩:=XP e0;obtain ⟨k2,n2,A2,c2,yu,f2,rfl,rfl,rfl,rfl,u2⟩:=XP e1;exact ⟨k1,n1,A1,c1,sj,f1,k2,n2,A2,c2,yu,f2,rfl,u1,u2⟩
theorem aho {H:Type} {enc:TypeId × Value→H} {W:World} {base:Nat} {v:Value} {d:DataW H} {ps:List MemPlace} (hval:Value.okWide prog W .any base 59 v) (h:DataW.Trod enc prog W 0 (fun _=>true) true 59 v d ps) :∃ (s:Bool) (A:Option Addr) (c:Nat) (xs:List Nat) (D:Option Addr) (d:Nat) (ys:List Nat) (s2:Bool) (A2:Option Addr) (c2:Nat) (yu:List Nat) (D2:Option Addr) (d2:Nat) (ys2:List Nat),v = .agg #[.bool s,.slice A xs.length c,.slice D ys.length d,.bool s2,.slice A2 yu.length c2,.slice D2 ys2.length d2]∧U W (.slice A xs.length c) xs∧U W (.slice D ys.length d) ys∧U W (.slice A2 yu.length c2) yu∧U W (.slice D2 ys2.length d2) ys2:=by
 obtain ⟨cs,rfl,hsz⟩:=xY underlying59 hval;rw [show prog.cellsOf 59 = 6 by kernel_rfl] at hsz;obtain ⟨l⟩:=cs;match l,hsz with
 | [c0,c1,c2,c3,c4,c5],_ =>
  obtain ⟨fuel,hf⟩:=h;obtain ⟨ys,m1,rfl,hx1,hlen,hn,hel⟩:=DataW.trod_array underlying59 hf;simp only [show prog.cellsOf 36 = 3 by kernel_rfl] at hel;match ys,hn,hel with
  | [y0,y1],_,hel =>have e0:=hel 0 (by decide);have e1:=hel 1 (by decide);simp [Value.cells] at e0 e1;obtain ⟨s,A,c,xs,D,d,ys,rfl,rfl,rfl,u,u2⟩:=Po e0;obtain ⟨s1,A1,b1,sj,D1,d1,ys1,rfl,rfl,rfl,u3,u4⟩:=Po e1;exact ⟨s,A,c,xs,D,d,ys,s1,A1,b1,sj,D1,d1,ys1,rfl,u,u2,u3,u4⟩
theorem ahp {H:Type} {enc:TypeId × Value→H} {W:World} {base:Nat} {v:Value} {d:DataW H} {ps:List MemPlace} (hval:Value.okWide prog W .any base 64 v) (h:DataW.Trod enc prog W 0 (fun _=>true) true 64 v d ps) :∃ (p q:Nat),v = .agg #[.int .u8 ((p:Nat):Int),.int .u8 ((q:Nat):Int)]∧p<256∧q<256:=by
 obtain ⟨cs,rfl,hsz⟩:=xY underlying64 hval;rw [show prog.cellsOf 64 = 2 by kernel_rfl] at hsz;obtain ⟨l⟩:=cs;match l,hsz with
 | [c0,c1],_ =>
  obtain ⟨fuel,hf⟩:=h;obtain ⟨ys,m1,rfl,hx1,hlen,hn,hel⟩:=DataW.trod_array underlying64 hf;simp only [show prog.cellsOf 5 = 1 by kernel_rfl] at hel;match ys,hn,hel with
  | [y0,y1],_,hel =>have e0:=hel 0 (by decide);have e1:=hel 1 (by decide);simp [Value.cells] at e0 e1;obtain ⟨a,f0,rfl,w0⟩:=DataW.trod_int underlying5 e0;obtain ⟨b,f1,rfl,w1⟩:=DataW.trod_int underlying5 e1;obtain rfl:=(List.cons.inj (show [c0]=[Value.int .u8 a] from f0)).1;obtain rfl:=(List.cons.inj (show [c1]=[Value.int .u8 b] from f1)).1;obtain ⟨p,rfl,hp⟩:=Jp w0;obtain ⟨q,rfl,hq⟩:=Jp w1;exact ⟨p,q,rfl,hp,hq⟩
