/- Base. -/
import Derived.Test.YtgcieamfidoaoaaGreatDoorGav
set_option linter.all false
set_option maxHeartbeats 8000000
set_option maxRecDepth 100000
namespace Go.Proofs.YtgcieamfidoaoaaGreatDoor
open Go.Proofs.Tryz
open Go.RowKit
section
open Go.ChangeShapes Go.WideShapes Go.ChangeAt
theorem WM:prog.cellsOf 34 = 2:=by kernel_rfl
theorem OU:prog.cellsOf 24 = 1:=by kernel_rfl
end
open Go.ChangeShapes Go.WideShapes Go.ChangeAt
theorem xY {P:Program} {k e:TypeId} {n:Nat} {W:World} (hu:P.underlying k=some (.array n e)) {r:Reach} {b0:Nat} {v:Value} (h:Value.okWide P W r b0 k v):∃ xs:Array Value,v = .agg xs∧xs.size=P.cellsOf k:=by simp only [Value.okWide,hu] at h;obtain ⟨cs,h1,h2,_⟩:=h;exact ⟨cs,h1,h2⟩
theorem XP {H:Type} {enc:TypeId × Value→H} {W:World} {m:Nat} {c0 c1 c2 c3:Value} {y:DataW H × List MemPlace} (h:DataW.trod enc prog W 0 (fun _=>true) true m 26 [c0,c1,c2,c3]=some y) :∃ (k:Int) (n:Bool) (A:Option Addr) (c:Nat) (xs:List Nat) (e:Int),c0 = .int .i64 k∧c1 = .bool n∧c2 = .slice A xs.length c∧c3 = .int .i64 e∧U W (.slice A xs.length c) xs:=by
 obtain ⟨ys,n,_,rfl,hl,hlen,hf⟩:=DataW.trod_struct underlying26 h;match ys,hlen,hf with
 | [y0,y1,y2,y3],_,hf =>
  have h0:=hf 0 _ rfl;have h1:=hf 1 _ rfl;have h2:=hf 2 _ rfl;have h3:=hf 3 _ rfl;have cb:prog.cellsOf 4 = 1:=by kernel_rfl
  have ci:prog.cellsOf 3 = 1:=by kernel_rfl
  simp [OU,WM,cb,ci] at h0 h1 h2 h3;obtain ⟨k,e0,_⟩:=DataW.trod_int underlying3 h0;obtain ⟨s,e1,_⟩:=DataW.trod_bool underlying4 h1;obtain ⟨xs,u⟩:=xI h2;obtain ⟨A,c,rfl,hu⟩:=id u;obtain ⟨e,e3,_⟩:=DataW.trod_int underlying3 h3;simp at e0 e1 e3;exact ⟨k,s,A,c,xs,e,e0,e1,rfl,e3,u⟩
theorem Cq {H:Type} {enc:TypeId × Value→H} {W:World} {base:Nat} {v:Value} {d:DataW H} {ps:List MemPlace} (hval:Value.okWide prog W .any base 23 v) (h:DataW.Trod enc prog W 0 (fun _=>true) true 23 v d ps) :∃ (r p l h:Int),v = A0c r p l h:=by
 obtain ⟨cs,rfl,hsz⟩:=okWide_struct underlying23 hval;rw [show prog.cellsOf 23 = 4 by kernel_rfl] at hsz;obtain ⟨l⟩:=cs;match l,hsz with
 | [c0,c1,c2,c3],_ =>
  obtain ⟨fuel,hf⟩:=h;obtain ⟨ys,n,_,K4,hl,hlen,hf⟩:=DataW.trod_struct underlying23 hf;match ys,hlen,hf with
  | [y0,y1,y2,y3],_,hf =>have h0:=hf 0 _ rfl;have h1:=hf 1 _ rfl;have h2:=hf 2 _ rfl;have h3:=hf 3 _ rfl;have ci:prog.cellsOf 3 = 1:=(by kernel_rfl);simp [ci] at h0 h1 h2 h3;obtain ⟨a,e0,_⟩:=DataW.trod_int underlying3 h0;obtain ⟨b,e1,_⟩:=DataW.trod_int underlying3 h1;obtain ⟨c,e2,_⟩:=DataW.trod_int underlying3 h2;obtain ⟨d,e3,_⟩:=DataW.trod_int underlying3 h3;obtain rfl:=(List.cons.inj (show [c0]=[Value.int .i64 a] from e0)).1;obtain rfl:=(List.cons.inj (show [c1]=[Value.int .i64 b] from e1)).1;obtain rfl:=(List.cons.inj (show [c2]=[Value.int .i64 c] from e2)).1;obtain rfl:=(List.cons.inj (show [c3]=[Value.int .i64 d] from e3)).1;exact ⟨a,b,c,d,rfl⟩
theorem V9 {H:Type} {enc:TypeId × Value→H} {W:World} {base:Nat} {v:Value} {d:DataW H} {ps:List MemPlace} (hval:Value.okWide prog W .any base 27 v) (h:DataW.Trod enc prog W 0 (fun _=>true) true 27 v d ps) :∃ (k1:Int) (n1:Bool) (A1:Option Addr) (c1:Nat) (sj:List Nat) (e1:Int) (k2:Int) (n2:Bool) (A2:Option Addr) (c2:Nat) (yu:List Nat) (e2:Int),v = .agg #[.int .i64 k1,.bool n1,.slice A1 sj.length c1,.int .i64 e1,.int .i64 k2,.bool n2,.slice A2 yu.length c2,.int .i64 e2]∧U W (.slice A1 sj.length c1) sj∧U W (.slice A2 yu.length c2) yu:=by
 obtain ⟨cs,rfl,hsz⟩:=xY underlying27 hval;rw [show prog.cellsOf 27 = 8 by kernel_rfl] at hsz;obtain ⟨l⟩:=cs;match l,hsz with
 | [c0,c1,c2,c3,c4,c5,c6,c7],_ =>
  obtain ⟨fuel,hf⟩:=h;obtain ⟨ys,m1,rfl,hx1,hlen,hn,hel⟩:=DataW.trod_array underlying27 hf;simp only [show prog.cellsOf 26 = 4 by kernel_rfl] at hel;match ys,hn,hel with
  | [y0,y1],_,hel =>have e0:=hel 0 (by decide);have e1:=hel 1 (by decide);simp [Value.cells] at e0 e1;obtain ⟨k1,n1,A1,c1,sj,f1,rfl,rfl,rfl,rfl,u1⟩:=XP e0;obtain ⟨k2,n2,A2,c2,yu,f2,rfl,rfl,rfl,rfl,u2⟩:=XP e1;exact ⟨k1,n1,A1,c1,sj,f1,k2,n2,A2,c2,yu,f2,rfl,u1,u2⟩