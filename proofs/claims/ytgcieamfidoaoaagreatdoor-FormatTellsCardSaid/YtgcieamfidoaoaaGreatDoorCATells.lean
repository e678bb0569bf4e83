/- What the law leans on. -/
import Derived.Test.YtgcieamfidoaoaaGreatDoorGbt
import Derived.Test.YtgcieamfidoaoaaGreatDoorGbv
set_option linter.all false
set_option maxHeartbeats 8000000
set_option maxRecDepth 100000
namespace Go.Proofs.YtgcieamfidoaoaaGreatDoor
open Rf Pl Go.Proofs.Tryz
open Go.RowKit Rf Fm
namespace Pl
open Go
theorem w32 {z:Int} (h1:0≤z) (h2:z<4294967296):IntKind.u32.wrap z=z:=by simp only [IntKind.wrap,IntKind.signed,IntKind.bits];simp;omega
section
variable {P:Program} {T:TypeId} {x y:Operand} {k k':IntKind} {a b c:Int} {v:Bool}
theorem IJ (h0:b≠0) (h:a.tmod b=c) (X:World):Bn P .rem T x y (.int k a) (.int k b) X = .ok (.int k c) X:=by subst h;simp [Bn,eqGuard,binOp,Op.intDiv,h0]
end
section
variable {P:Program} {L:List Oper} {S:World→Prop} {K:List (Nat × Value)→World→Prop} {k:Bool} {i m d:Nat} {o:Oper} {r:List (Bool × Nat × Nat)} {l:List (Nat × Value)} {w w':World} {v:Value}
theorem LP {x:Operand} {s t:TypeId} {kd kd':IntKind} {a c:Int} (hu:P.underlying t=some (.int kd')) (hs:(P.underlying s).isSome=true) (h1:kd'.wrap a=c) (hS:S w) (ho:nth L i=some o) (hop:o.op = .convert s t x) (hd:o.dst=some d) (hg:gd L l o.guard=some true) (hx:fO l x=some (.int kd a)) (h:iP P L S K r ((d,.int kd' c)::l) w):iP P L S K ((k,i,m)::r) l w :=
 jS hS ho hd hg (fun ρ hρ X _=>by
  obtain ⟨sd,hs⟩:=Option.isSome_iff_exists.1 hs;unfold execOp;rw [hop];refine fI _ X ?_;rw [hρ.fO hx];subst h1;simp [convert,run_underlying hs,run_underlying hu,Conv.intToInt]) h
end
open Go Go.RowKit
theorem a64 {a b:Nat} {x y:Int} (hx:x=(a:Int)) (hy:y=(b:Int)) (h:a+b≤9223372036854775807):IntKind.i64.wrap (x+y)=((a+b:Nat):Int):=by subst hx hy;rw [zJ (by omega) (by omega)];omega
end Pl
namespace Rf
open Go Go.RowKit Pl
section
variable {P:Program} {Q:Exit→Act→World→Prop} {n:Nat} {ds:List Deferred} {w0:World} {cs:List Code} {l:Fr} {B:Bx} {Γ:Gm}
theorem E5 {L:List Oper} {r:qE} {i m d:Nat} {o:Oper} {x y:Operand} {op:BinOp} {tx ty:TypeId} {u u':Value} {p:Prop} {ip:Decidable p} (hr:∀ X,Bn P op tx x y u u' X = .ok (.bool (decide p)) X) (ho:nth L i=some o) (hop:o.op = .binOp op tx x y ty) (hd:o.dst=some d) (hg:lJ L l o.guard=some true) (hx:ev l x=some (.v u)) (hy:ev l y=some (.v u')) (h1:p→HA P Q n ds w0 cs L r ((d,.v (.bool true))::l) B Γ) (h2:¬ p→HA P Q n ds w0 cs L r ((d,.v (.bool false))::l) B Γ):HA P Q n ds w0 cs L ((false,i,m)::r) l B Γ:=by
 by_cases hp:p
 · exact Ol (fun X=>by rw [hr X,decide_eq_true hp]) ho hop hd hg hx hy (h1 hp)
 · exact Ol (fun X=>by rw [hr X,decide_eq_false hp]) ho hop hd hg hx hy (h2 hp)
end
section
variable {P:Program} {Q:Exit→Act→World→Prop} {n:Nat} {ds:List Deferred} {w0:World} {cs:List Code} {l0:Fr} {B0:Bx} {Γ0:Gm} {L:List Oper} {ord:Option (List Nat)}
def LQ (l:Fr):List Nat→Fr→Fr
 | [],acc=>acc
 | t::ts,acc=>match lk l t with
  | some s=>LQ l ts ((t,s)::acc)
  | none=>LQ l ts acc
def LU (l:Bx):List Nat→Bx→Bx
 | [],acc=>acc
 | t::ts,acc=>match kP l t with
  | some (u,c)=>LU l ts ((t,u,c)::acc)
  | none=>LU l ts acc
def LV (l:Gm):List Nat→Gm→Gm
 | [],acc=>acc
 | t::ts,acc=>match lZ l t with
  | some s=>LV l ts ((t,s)::acc)
  | none=>LV l ts acc
theorem nP {l:Fr}:∀ {ts:List Nat} {acc:Fr},vX acc l→vX (LQ l ts acc) l
 | [],_,h=>h
 | t::ts,acc,h=>by
  unfold LQ;cases ht:lk l t with
  | none=>exact nP h
  | some s =>
   refine nP fun q u hq=>?_;unfold lk at hq;cases hb:Nat.beq t q with
   | true =>rw [hb] at hq;obtain rfl:=Nat.eq_of_beq_eq_true hb;obtain rfl:=Option.some.inj hq;exact ht
   | false=>rw [hb] at hq;exact h q u hq
theorem nQ {l:Bx}:∀ {ts:List Nat} {acc:Bx},(∀ b x,kP acc b=some x→kP l b=some x)→∀ b x,kP (LU l ts acc) b=some x→kP l b=some x
 | [],_,h=>h
 | t::ts,acc,h=>by
  unfold LU;cases ht:kP l t with
  | none=>exact nQ h
  | some s =>
   obtain ⟨u,c⟩:=s;refine nQ fun q x hq=>?_;unfold kP at hq;cases hb:Nat.beq t q with
   | true =>rw [hb] at hq;obtain rfl:=Nat.eq_of_beq_eq_true hb;obtain rfl:=Option.some.inj hq;exact ht
   | false=>rw [hb] at hq;exact h q x hq
theorem nR {l:Gm}:∀ {ts:List Nat} {acc:Gm},(∀ b x,lZ acc b=some x→lZ l b=some x)→∀ b x,lZ (LV l ts acc) b=some x→lZ l b=some x
 | [],_,h=>h
 | t::ts,acc,h=>by
  unfold LV;cases ht:lZ l t with
  | none=>exact nR h
  | some s =>
   refine nR fun q x hq=>?_;unfold lZ at hq;cases hb:Nat.beq t q with
   | true =>rw [hb] at hq;obtain rfl:=Nat.eq_of_beq_eq_true hb;obtain rfl:=Option.some.inj hq;exact ht
   | false=>rw [hb] at hq;exact h q x hq
theorem jY {l l':Fr} {B B':Bx} {Γ Γ':Gm} (a b c:List Nat) (e1:LQ l a []=l') (e2:LU B b []=B') (e3:LV Γ c []=Γ') (h:HV P Q n ds w0 cs l' B' Γ'):HV P Q n ds w0 cs l B Γ:=fun α γ w hH=>by subst e1 e2 e3;have:=h α γ w (hH.sub (nQ (by rintro b x h;cases h)) (nR (by rintro b x h;cases h)));exact Cn ((nP (by rintro b x h;cases h)).look α γ) this
end
end Rf
section
open Go.ChangeShapes Go.WideShapes Go.ChangeAt
theorem laidOut:laidOutB prog=true:=by kernel_rfl
abbrev sH:List (String × DataW Unit):=[("ziggurat/ntt.fields",Rows.laid_ziggurat_ntt_fields)]
theorem wK (os:Os) (args:Array Value):laidMetH prog sH ((World.doorLaid prog 400 os).forCall (fun _ _=>0) ⟨#[],args,[]⟩).memory :=
 laidMetH_of_parts3 (fuel:=8) (laidMet_of_run' 8 (by kernel_rfl) (by kernel_rfl)) (by kernel_rfl) (by kernel_rfl)
theorem jG {H:Type} {enc:TypeId × Value→H} {W W':World} {sp:Nat→Bool} (hB:Ext W W'):∀ {ts:List TypeId} {vs:List Value} {ds:List (DataW H)} {ps:List MemPlace},
  (∀ t∈ts,prog.readableRec t=true∧t<prog.types.size)→DataW.TrodAll enc prog W 0 (fun _=>true) true ts vs ds ps→(∀ p∈ps,p.block<W.heap.size)→(∀ p∈ps,sp p.block=true)→DataW.TrodAll enc prog W' 0 sp true ts vs ds ps
 | [],[],[],_,_,h,_,_=>h
 | t::_,_::_,_::_,_,hT,⟨p,q,h1,h2,e⟩,hlt,hs=>⟨p,q,
  WideElems.Trod_stays laidOut (hT t (List.mem_cons_self ..)).1 (hT t (List.mem_cons_self ..)).2 h1 (fun x hx=>Below.same hB (hlt x (by rw [e];exact List.mem_append_left _ hx))) (fun x hx=>hs x (by rw [e];exact List.mem_append_left _ hx)),
  jG hB (fun t ht=>hT t (List.mem_cons_of_mem _ ht)) h2 (fun x hx=>hlt x (by rw [e];exact List.mem_append_right _ hx)) (fun x hx=>hs x (by rw [e];exact List.mem_append_right _ hx)),e⟩
theorem wL {H:Type} {enc:TypeId × Value→H} {f:Func} {s:ChangeSpec} {apart fresh handsOn again:Bool} {W W':World} {args:Array Value} {ds gs:List (DataW H)} {before:List MemPlace} (hW:DataW.Whole enc prog f.params.toList s.vars apart W args.toList ds gs before) (hv:s.vars=[]) (hT:∀ t∈f.params.toList,prog.readableRec t=true∧t<prog.types.size) (hres:f.resultTypes=#[4]) (hfn:(s.fn H (ds++gs)).results=[.lit (.bool true)]) (hfa:(s.fn H (ds++gs)).args=ds) (hfv:(s.fn H (ds++gs)).vars=[]) (hB:Ext W W') :s.post enc prog f apart fresh handsOn again W args (.bool true) W':=by
 have hlt:∀ p∈before,p.block<W.heap.size:=fun p hp=>hW.lt p hp;have hold:∀ p∈before,(fun b=>decide (b<W.heap.size)) p.block=true:=fun p hp=>by simpa using hlt p hp
 have hres':∀ (b:Nat) (sp:Nat→Bool) (hd:Bool),DataW.TrodAll enc prog W' b sp hd f.resultTypes.toList ((Value.bool true).resultList f.resultTypes.size) (s.fn H (ds++gs)).results []:=by intro b sp hd;rw [hres,hfn];exact trodAll_mk1 (shut_bool underlying4 _)
 have hW2:=hW;obtain ⟨p,q,hA,hV,hpq,hz,hn⟩:=hW;rw [hv] at hV;obtain ⟨_,rfl⟩:=trodVars_none hV;rw [List.append_nil] at hpq;subst hpq;have hargs:∀ sp:Nat→Bool,(∀ p'∈before,sp p'.block=true)→DataW.TrodAll enc prog W' 0 sp true f.params.toList args.toList (s.fn H (ds++gs)).args before:=fun sp hs=>by rw [hfa];exact jG hB hT hA hlt hs
 have hvars:∀ sp:Nat→Bool,DataW.TrodVars enc prog W' sp s.vars (s.fn H (ds++gs)).vars []:=fun sp=>by rw [hv,hfv];exact rfl
 refine ⟨ds,gs,before,[],before,[],hW2,hres' _ _ _,hargs _ hold,hvars _,World.keptBut_mono (fun p hp=>⟨hp,?_⟩) (Below.frame hB (·∈before)),fun _=>?_⟩
 · simpa using hp
 · refine ⟨ok_one hres rfl (okWide_bool_mk underlying4 _),_,_,([]++before)++[],⟨[]++before,[],trodAll_append (hargs _ (fun _ _=>rfl)) (hres' _ _ _),hvars _,rfl,?_,?_⟩,?_⟩
   · intro b off hp;have hin:MemPlace.cell b off∈before:=(by simpa using hp);rw [Below.frozen hB (hlt _ hin)];exact hz b off hin
   · intro ha;have:=hn ha;simpa using this
   · intro p hp _;simpa using hp
end
def eF (xs:List Nat) (k:Nat):Nat:=val (xs.take k)
theorem wM (xs:List Nat) (k:Nat) (hx:∀ x∈xs,x<4294967296):(limbs (eF xs k)).length≤k:=by apply jC;have:=ru (xs.take k) (fun x h=>hx x (List.mem_of_mem_take h));refine Nat.lt_of_lt_of_le this (Nat.pow_le_pow_right (by decide) ?_);rw [List.length_take];omega
theorem ry (w:World) (v:Value) (xs:List Nat) (k:Int) (hk0:0≤k) (hk1:k≤1000000000) (h:U w v xs) :Calls prog 65 #[v,.int .i64 k] w fun e w'=>(∃ u,e = .returned u∧Un w' u (eF xs k.toNat))∧Below w.heap.size w w':=by
 have h':=h;obtain ⟨A,c,rfl,⟨hc,hm⟩,hx,hr⟩:=h;clear hr;by_cases hl:(xs.length:Int)≤k
 · have hu:=iQ w _ xs h' (by omega);have HT:Hid (xs.take k.toNat=xs):=List.take_of_length_le (by omega);have hmin:min (xs.length:Int) k=xs.length:=(by omega);go_enter func65,ntmps65;go_wp2_with (go_at_call 100;refine hu.mono ?_;rintro e w' ⟨⟨z,rfl,hz⟩,hB⟩);go_ret;exact ⟨⟨_,rfl,by rw [Un,eF,HT.out];exact hz⟩,hB⟩
 · obtain ⟨k,rfl⟩:=Int.eq_ofNat_of_zero_le hk0;have hu:=iQ w _ _ (h'.take (k:=k) (c':=c) (by omega) (by omega)) (by rw [List.length_take];omega);have hmin:min (xs.length:Int) (k:Int)=k:=(by omega);go_enter func65,ntmps65;go_wp2_with (go_at_call 100;refine hu.mono ?_;rintro e w' ⟨⟨z,rfl,hz⟩,hB⟩);go_ret;exact ⟨⟨_,rfl,by rw [Un,eF,Int.toNat_natCast];exact hz⟩,hB⟩
theorem rA (w:World) (v:Value) (xs:List Nat) (k:Int) (h:U w v xs) (hk0:0≤k) (hk1:k≤1000000000) (n:Nat) (hn:eF xs k.toNat=n) :A0l 65 #[v,.int .i64 k] w n:=by subst hn;exact (ry w v xs k hk0 hk1 h).mono fun e w' ⟨⟨u,he,hu⟩,hb⟩=>⟨u,he,hu,hb⟩
theorem gN (o:List Nat):(qy o).length=o.length:=by simp [qy]
theorem FZ (a b:List Nat):qy (a++b)=qy a++qy b:=by simp [qy]
theorem sM (w:World) (g base n c off zl zc:Nat) (o gm:List Nat) (va:Value) (hown:Ow w base (.slice (some ⟨g,0,none⟩) n c) o) (ho:∀ x∈o,x<18446744073709551616) (hz:off+zl≤n) (hzc:zl≤zc) (hn:n≤1000000) (ha:V g w va gm) (hal:gm.length≤zl) :Calls prog 159 #[.slice (some ⟨g,off,none⟩) zl zc,va] w fun e w'=>(∃ o' cy,e = .returned (.int .u64 (cy:Nat))∧NV n off (bI o+BB^off*bI gm) zl o' cy∧Ow w' base (.slice (some ⟨g,0,none⟩) n c) o')∧But g w w':=by
 have hlim:=ha.lim;obtain ⟨A,ca,rfl,⟨hca,hma⟩,hx,hr⟩:=id ha;obtain ⟨na,hna⟩:∃ na,gm.length=na:=⟨_,rfl⟩;have hcap:=hown.caps;have hgb:=hown.block.2;have HN:=Lib.hid hna;have HS:Hid (NV n off (bI o+BB^off*bI (gm.take 0)) 0 o 0):=⟨hcap.1.symm,ho,Nat.zero_le _,by simp [bI]⟩;have Ya:=Lib.hid (fun k=>iZ gm k);have HT2:Hid (gm.take na=gm):=by rw [Hid,← hna];exact List.take_length
 rw [hna] at hca hma hr hal ⊢;have hB0:=But.refl g w;clear ha hna hcap ho;go_enter func159,ntmps159;go_wp2;go_loopw [16,5] (fun t s wr=>∃ (i:Nat) (o':List Nat) (cy:Nat),i≤na∧t = .int .i64 (i:Nat)∧s = .int .u64 (cy:Nat)∧Hid (NV n off (bI o+BB^off*bI (gm.take i)) i o' cy)∧Ow wr base (.slice (some ⟨g,0,none⟩) n c) o'∧But g w wr) (fun t _ _=>na-(intOf t).toNat);case atStart=>exact ⟨0,o,0,Nat.zero_le _,rfl,rfl,HS,hown,hB0⟩
 case round =>
  clear HS hown hB0;obtain ⟨i,o',cy,hi,rfl,rfl,HO,hown,hB⟩:=hrel;by_cases hlt:i<na
  · obtain ⟨ad,rfl,hb,hne,hcell⟩:=hr (by omega);have hc0:=(hB.cell (p:=ad.add i) (by rw [aW];exact hb) (by rw [aW];exact hne)).trans (hcell i hlt);have hy:lb gm i<18446744073709551616:=gD (by decide) hx i;have htk:=Ya.out i (by rw [HN.out];exact hlt);have hcz:=hown.cell (j:=off+i) (by omega);have hf:=hown.frozen (off+i);have hx1:lb o' (off+i)<18446744073709551616:=gD (by decide) HO.out.lt _;have hcy:=HO.out.Ec;obtain ⟨y,Db⟩:∃ y,lb gm i=y:=⟨_,rfl⟩;rw [Db] at hc0 hy htk;obtain ⟨s,hs⟩:∃ s,(lb o' (off+i)+y+cy)%18446744073709551616=s:=⟨_,rfl⟩;obtain ⟨d,hd⟩:∃ d,(lb o' (off+i)+y+cy)/18446744073709551616=d:=⟨_,rfl⟩;have hst:=HO.out.step (by omega) y s d hy hs hd;rw [Nat.add_assoc (bI o),Nat.pow_add,Nat.mul_assoc,← Nat.mul_add,← htk] at hst;have HST:=Lib.hid hst;have hown2:=hown.qU (off+i) s;have hB2:=hB.setCell (off+i) (.int .u64 (s:Nat));obtain ⟨x,zU⟩:∃ x,lb o' (off+i)=x:=⟨_,rfl⟩;rw [zU] at hs hd hcz hx1;have hadd:=wB x y cy s d hcy hs hd;clear hst htk Db hs hd zU hown hB HO hy hx1 hcy;go_wp2;go_roundw;case rel=>exact ⟨i+1,_,d,by omega,by go_num,rfl,HST,hown2,hB2⟩
    case measure=>simp [intOf];omega
  · obtain rfl:i=na:=(by omega);rw [HT2.out] at HO;clear hr hlt;go_wp2;go_loopw [9,5] (fun t s wx=>∃ (j:Nat) (o2:List Nat) (Hy:Nat),j≤zl∧t = .int .i64 (j:Nat)∧s = .int .u64 (Hy:Nat)∧Hid (NV n off (bI o+BB^off*bI gm) j o2 Hy)∧Ow wx base (.slice (some ⟨g,0,none⟩) n c) o2∧But g w wx) (fun t _ _=>zl-(intOf t).toNat);case atStart=>exact ⟨i,o',cy,hal,rfl,rfl,HO,hown,hB⟩
    case round =>
     clear hown hB HO;obtain ⟨j,o2,Hy,hj,rfl,rfl,HO,hown,hB⟩:=hrel;have hcy:=HO.out.Ec;by_cases h0:Hy=0
     · subst h0;have HF:Hid (∃ o' cy,Ending.returned (.int .u64 0) = .returned (.int .u64 (cy:Nat))∧NV n off (bI o+BB^off*bI gm) zl o' cy∧Ow wr base (.slice (some ⟨g,0,none⟩) n c) o'):=⟨o2,0,rfl,⟨HO.out.len,HO.out.lt,Nat.zero_le _,by have:=HO.out.val;simpa using this⟩,hown⟩;clear hown HO;go_wp2;go_ret;exact ⟨HF.out,hB⟩
     · have hne:(((Hy:Nat):Int) != 0)=true:=(by rw [bne_iff_ne];omega);by_cases hjz:j<zl
       · have hcz:=hown.cell (j:=off+j) (by omega);have hf:=hown.frozen (off+j);have hx1:lb o2 (off+j)<18446744073709551616:=gD (by decide) HO.out.lt _;obtain ⟨s,hs⟩:∃ s,(lb o2 (off+j)+0+Hy)%18446744073709551616=s:=⟨_,rfl⟩;obtain ⟨d,hd⟩:∃ d,(lb o2 (off+j)+0+Hy)/18446744073709551616=d:=⟨_,rfl⟩;have hst:=HO.out.step (by omega) 0 s d (by decide) hs hd;rw [Nat.mul_zero,Nat.add_zero] at hst;have HST:=Lib.hid hst;have hown2:=hown.qU (off+j) s;have hB2:=hB.setCell (off+j) (.int .u64 (s:Nat));obtain ⟨x,zU⟩:∃ x,lb o2 (off+j)=x:=⟨_,rfl⟩;rw [zU] at hs hd hcz hx1;have hadd:∀ w,(callFunc 172 #[.int .u64 (x:Nat),.int .u64 0,.int .u64 (Hy:Nat)]).run prog w = .ok (.value (.tuple #[.int .u64 (s:Nat),.int .u64 (d:Nat)])) w:=wB x 0 Hy s d hcy hs hd;clear hst hs hd zU hown hB HO hx1 hcy h0;go_wp2;go_roundw;case rel=>exact ⟨j+1,_,d,by omega,by go_num,rfl,HST,hown2,hB2⟩
         case measure=>simp [intOf];omega
       · obtain rfl:j=zl:=(by omega);have HF:Hid (∃ o' cy,Ending.returned (.int .u64 (Hy:Nat)) = .returned (.int .u64 (cy:Nat))∧NV n off (bI o+BB^off*bI gm) j o' cy∧Ow wr base (.slice (some ⟨g,0,none⟩) n c) o'):=⟨o2,Hy,rfl,HO.out,hown⟩;clear hown HO h0;go_wp2;go_ret;exact ⟨HF.out,hB⟩
theorem xy (w:World) (g base n c off zl zc:Nat) (o gm:List Nat) (va:Value) (hown:Ow w base (.slice (some ⟨g,0,none⟩) n c) o) (ho:∀ x∈o,x<18446744073709551616) (hz:off+zl≤n) (hzc:zl≤zc) (hn:n≤1000000) (ha:V g w va gm) (hal:gm.length≤zl) :Calls prog 193 #[.slice (some ⟨g,off,none⟩) zl zc,va] w fun e w'=>e = .returned (.tuple #[])∧(∃ o' cy,Vl n off (bI o) (BB^off*bI gm) zl o' cy∧Ow w' base (.slice (some ⟨g,0,none⟩) n c) o')∧But g w w':=by
 have hlim:=ha.lim;obtain ⟨A,ca,rfl,⟨hca,hma⟩,hx,hr⟩:=id ha;obtain ⟨na,hna⟩:∃ na,gm.length=na:=⟨_,rfl⟩;have hcap:=hown.caps;have hgb:=hown.block.2;have HN:=Lib.hid hna;have HS:Hid (Vl n off (bI o) (BB^off*bI (gm.take 0)) 0 o 0):=⟨hcap.1.symm,ho,Nat.zero_le _,by simp [bI]⟩;have Ya:=Lib.hid (fun k=>iZ gm k);have HT2:Hid (gm.take na=gm):=by rw [Hid,← hna];exact List.take_length
 rw [hna] at hca hma hr hal ⊢;have hB0:=But.refl g w;clear ha hna hcap ho;go_enter func193,ntmps193;go_wp2;go_loopw [15,4] (fun t s wr=>∃ (i:Nat) (o':List Nat) (cy:Nat),i≤na∧t = .int .i64 (i:Nat)∧s = .int .u64 (cy:Nat)∧Hid (Vl n off (bI o) (BB^off*bI (gm.take i)) i o' cy)∧Ow wr base (.slice (some ⟨g,0,none⟩) n c) o'∧But g w wr) (fun t _ _=>na-(intOf t).toNat);case atStart=>exact ⟨0,o,0,Nat.zero_le _,rfl,rfl,HS,hown,hB0⟩
 case round =>
  clear HS hown hB0;obtain ⟨i,o',cy,hi,rfl,rfl,HO,hown,hB⟩:=hrel;by_cases hlt:i<na
  · obtain ⟨ad,rfl,hb,hne,hcell⟩:=hr (by omega);have hc0:=(hB.cell (p:=ad.add i) (by rw [aW];exact hb) (by rw [aW];exact hne)).trans (hcell i hlt);have hy:lb gm i<18446744073709551616:=gD (by decide) hx i;have htk:=Ya.out i (by rw [HN.out];exact hlt);have hcz:=hown.cell (j:=off+i) (by omega);have hf:=hown.frozen (off+i);have hx1:lb o' (off+i)<18446744073709551616:=gD (by decide) HO.out.lt _;have hcy:=HO.out.Ec;obtain ⟨y,Db⟩:∃ y,lb gm i=y:=⟨_,rfl⟩;rw [Db] at hc0 hy htk;obtain ⟨s,hs⟩:∃ s,(lb o' (off+i)+18446744073709551616-y-cy)%18446744073709551616=s:=⟨_,rfl⟩;obtain ⟨d,hd⟩:∃ d,(if lb o' (off+i)<y+cy then 1 else 0)=d:=⟨_,rfl⟩;have hst:=HO.out.step (by omega) y s d hy hs hd;rw [Nat.pow_add,Nat.mul_assoc,← Nat.mul_add,← htk] at hst;have HST:=Lib.hid hst;have hown2:=hown.qU (off+i) s;have hB2:=hB.setCell (off+i) (.int .u64 (s:Nat));obtain ⟨x,zU⟩:∃ x,lb o' (off+i)=x:=⟨_,rfl⟩;rw [zU] at hs hd hcz hx1;have hadd:=zV x y cy s d hcy hs hd;clear hst htk Db hs hd zU hown hB HO hy hx1 hcy;go_wp2;go_roundw;case rel=>exact ⟨i+1,_,d,by omega,by go_num,rfl,HST,hown2,hB2⟩
    case measure=>simp [intOf];omega
  · obtain rfl:i=na:=(by omega);rw [HT2.out] at HO;clear hr hlt;go_wp2;go_loopw [8,4] (fun t s wx=>∃ (j:Nat) (o2:List Nat) (Hy:Nat),j≤zl∧t = .int .i64 (j:Nat)∧s = .int .u64 (Hy:Nat)∧Hid (Vl n off (bI o) (BB^off*bI gm) j o2 Hy)∧Ow wx base (.slice (some ⟨g,0,none⟩) n c) o2∧But g w wx) (fun t _ _=>zl-(intOf t).toNat);case atStart=>exact ⟨i,o',cy,hal,rfl,rfl,HO,hown,hB⟩
    case round =>
     clear hown hB HO;obtain ⟨j,o2,Hy,hj,rfl,rfl,HO,hown,hB⟩:=hrel;have hcy:=HO.out.Ec;by_cases h0:Hy=0
     · subst h0;have HF:Hid (∃ o' cy,Vl n off (bI o) (BB^off*bI gm) zl o' cy∧Ow wr base (.slice (some ⟨g,0,none⟩) n c) o'):=⟨o2,0,⟨HO.out.len,HO.out.lt,Nat.zero_le _,by have:=HO.out.val;simpa using this⟩,hown⟩;clear hown HO;go_wp2;go_end0;exact ⟨rfl,HF.out,hB⟩
     · have hne:(((Hy:Nat):Int) != 0)=true:=(by rw [bne_iff_ne];omega);by_cases hjz:j<zl
       · have hcz:=hown.cell (j:=off+j) (by omega);have hf:=hown.frozen (off+j);have hx1:lb o2 (off+j)<18446744073709551616:=gD (by decide) HO.out.lt _;obtain ⟨s,hs⟩:∃ s,(lb o2 (off+j)+18446744073709551616-0-Hy)%18446744073709551616=s:=⟨_,rfl⟩;obtain ⟨d,hd⟩:∃ d,(if lb o2 (off+j)<0+Hy then 1 else 0)=d:=⟨_,rfl⟩;have hst:=HO.out.step (by omega) 0 s d (by decide) hs hd;rw [Nat.mul_zero,Nat.add_zero] at hst;have HST:=Lib.hid hst;have hown2:=hown.qU (off+j) s;have hB2:=hB.setCell (off+j) (.int .u64 (s:Nat));obtain ⟨x,zU⟩:∃ x,lb o2 (off+j)=x:=⟨_,rfl⟩;rw [zU] at hs hd hcz hx1;have hadd:∀ w,(callFunc 227 #[.int .u64 (x:Nat),.int .u64 0,.int .u64 (Hy:Nat)]).run prog w = .ok (.value (.tuple #[.int .u64 (s:Nat),.int .u64 (d:Nat)])) w:=zV x 0 Hy s d hcy hs hd;clear hst hs hd zU hown hB HO hx1 hcy h0;go_wp2;go_roundw;case rel=>exact ⟨j+1,_,d,by omega,by go_num,rfl,HST,hown2,hB2⟩
         case measure=>simp [intOf];omega
       · obtain rfl:j=zl:=(by omega);have HF:Hid (∃ o' cy,Vl n off (bI o) (BB^off*bI gm) j o' cy∧Ow wr base (.slice (some ⟨g,0,none⟩) n c) o'):=⟨o2,Hy,HO.out,hown⟩;clear hown HO h0;go_wp2;go_end0;exact ⟨rfl,HF.out,hB⟩
theorem zx (o xs:List Nat) (off:Nat) (h:off+xs.length≤o.length) (hz:∀ j,off≤j→j<off+xs.length→lb o j=0):bI (splice o off xs)=bI o+BB^off*bI xs:=by
 have e1:=oQ o off (by omega);have e2:=oQ (o.drop off) xs.length (by rw [List.length_drop];omega)
 have e3:bI ((o.drop off).take xs.length)=0:=by
  have:(o.drop off).take xs.length=List.replicate xs.length 0:=by refine ww (by simp;omega) fun j hj=>?_;have hj':j<xs.length:=(by simp at hj;omega);rw [kC hj',Er,jL,hz _ (by omega) (by omega)]
  rw [this,mZ]
 rw [e3,Nat.zero_add,List.drop_drop] at e2;unfold splice;rw [kW,kW,List.length_take,Nat.min_eq_left (by omega),e1,e2,Nat.mul_add];omega
theorem F3 (o xs:List Nat) (off:Nat) (h:off+xs.length≤o.length):(splice o off xs).length=o.length:=length_splice o off xs h
theorem Cx (o xs:List Nat) (off:Nat) (ho:∀ x∈o,x<18446744073709551616) (hx:∀ x∈xs,x<18446744073709551616):∀ x∈splice o off xs,x<18446744073709551616:=by
 intro x h;unfold splice at h;rcases List.mem_append.1 h with h | h
 · exact ho x (List.mem_of_mem_take h)
 · rcases List.mem_append.1 h with h | h
   · exact hx x h
   · exact ho x (List.mem_of_mem_drop h)
theorem Ic (o xs:List Nat) (off j:Nat) (h:off+xs.length≤o.length) (hj:off+xs.length≤j):lb (splice o off xs) j=lb o j:=by unfold splice;rw [tN,if_neg (by simp;omega),tN,if_neg (by simp;omega),Er];congr 1;simp;omega
theorem Ou (o xs:List Nat) (off:Nat) (t:List Value) (h:off+xs.length≤o.length):splice (qy o++t) off (qy xs)=qy (splice o off xs)++t:=by unfold splice;rw [gN,List.take_append_of_le_length (by rw [gN];omega),List.drop_append_of_le_length (by rw [gN];omega)];simp [qy,List.map_take,List.map_drop]
theorem vo {w:World} {ops:Array Oper} {rest:List Oper} {o:Oper} {a:Act} {Q:Exit→Act→World→Prop} (hgd:o.guard=none) (d s:Operand) (ho:o.op = .call { callee:=.builtin .copy,args:=#[d,s],argTypes:=#[145,145] }) (g off dLen dCap:Nat) (sp:Option Addr) (sLen sCap:Nat) (hd:a.eval d = .slice (some ⟨g,off,none⟩) dLen dCap) (hs:a.eval s = .slice sp sLen sCap) (base n c:Nat) (os:List Nat) (hown:Ow w base (.slice (some ⟨g,0,none⟩) n c) os) (xs:List Nat) (hx:V g w (.slice sp sLen sCap) xs) (hle:sLen≤dLen) (hfit:off+dLen≤n) (h:∀ w',Ow w' base (.slice (some ⟨g,0,none⟩) n c) (splice os off xs)→But g w w'→wpList prog ops Q rest (a.put o.dst (goInt xs.length)) w'):wpList prog ops Q (o::rest) a w:=by
 obtain ⟨A,c',hv,hcc,hlim,hr⟩:=hx;injection hv with q1 q2 q3;have hi:(prog.info? 111).map (·.size)=some 1:=by kernel_rfl
 have hlen:(qy xs).length=xs.length:=gN xs;have afd:=hown.caps;rcases Nat.eq_zero_or_pos xs.length with h0 | h0
 · obtain rfl:=List.eq_nil_of_length_eq_zero h0;have q2':sLen=0:=q2;rw [q2'] at hs;refine wpList_copy_nothing hgd d s 145 145 ho 111 underlying145 hi _ _ dLen dCap 0 sCap hd hs (Nat.zero_min _)<|h w ?_ (But.refl g w);have e:splice os off ([]:List Nat)=os:=(by simp [splice]);rw [e];exact hown
 · obtain ⟨ad,hA,hb,hne,hcell⟩:=hr h0;have hh0:w.ownsRow base 111 1 (.slice (some ⟨g,0,none⟩) n c) os.length (qy os):=hown;rcases hh0.2 with ⟨h1,_⟩ | ⟨g',cap,cur,h1,hg,hh,h2,h3,h4,h5⟩
   · cases h1
   · injection h1 with e1 e2 e3;injection e1 with e1;injection e1 with e1;subst e1
     have ahY:cur.toList=qy os++cur.toList.drop os.length:=by
      conv=>lhs;rw [← List.take_append_drop os.length cur.toList]
      rw [← h5,Nat.mul_one]
     have hsz:os.length≤cur.size:=(by omega);refine wpList_copy_own hgd d s 145 145 ho 111 underlying145 hi g off dLen dCap ad sLen sCap hd (by rw [hs,q1,hA]) cur 111 hh (qy xs) (by rw [hlen,← q2];exact (Nat.min_eq_left hle).symm) ?_ (by rw [hlen];omega) (by intro u hu;obtain ⟨z,_,rfl⟩:=List.mem_map.1 hu;rfl) ?_
     · intro j u hj
       have hjl:j<xs.length:=by
        rcases Nat.lt_or_ge j xs.length with h | h
        · exact h
        · rw [List.getElem?_eq_none (by rw [gN];exact h)] at hj;cases hj
       rw [hcell j hjl,← Qs xs hjl,hj]
     · rw [hlen];have e:cur.toList.take off++(qy xs++cur.toList.drop (off+xs.length))=qy (splice os off xs)++cur.toList.drop os.length:=(by rw [← Ou os xs off _ (by omega),← ahY];unfold splice;rw [hlen]);have hsl:=F3 os xs off (by omega);refine h _ ?_ ⟨rfl,rfl,rfl,by simp [World.setRow],fun k hk hne=>setRow_other w g k _ (fun e=>hne (by rw [e]))⟩;refine ⟨by rw [gN,Nat.mul_one],.inr ⟨g,cap,_,by rw [e2,e3,hsl],hg,setRow_heap w g _ _ _ _ hh,by rw [hsl];exact h2,h3,?_,?_⟩⟩
       · rw [e,List.size_toArray,List.length_append,gN,hsl,List.length_drop,Array.length_toList (xs:=cur)];omega
       · rw [e,Nat.mul_one,List.take_append_of_le_length (by rw [gN];exact Nat.le_refl _),← gN (splice os off xs),List.take_length]
theorem IU (w:World) (q:Nat) (va vb:Value) (gm bs:List Nat) (ha:V q w va gm) (hb:V q w vb bs) (m:Nat) (hm:max gm.length bs.length+1=m) (hm1:m≤100000) :Calls prog 192 #[va,vb] w fun e w'=>e = .returned (.slice (some ⟨w.heap.size,0,none⟩) m m)∧(∃ o,Ow w' w.heap.size (.slice (some ⟨w.heap.size,0,none⟩) m m) o∧bI o=bI gm+bI bs∧(∀ x∈o,x<18446744073709551616)∧o.length=m)∧Ext w w':=by
 have la:=ha.lim;have lb':=hb.lim;have wa:=yY gm la;have wb:=yY bs lb';obtain ⟨A,ca,rfl,hca⟩:=ha.shape;obtain ⟨A2,cb,rfl,hcb⟩:=hb.shape;obtain ⟨na,hna⟩:∃ na,gm.length=na:=⟨_,rfl⟩;obtain ⟨nb,hnb⟩:∃ nb,bs.length=nb:=⟨_,rfl⟩;have HNA:=Lib.hid hna;have HNB:=Lib.hid hnb;rw [hna] at ha hca hm wa ⊢;rw [hnb] at hb hcb hm wb ⊢;obtain ⟨i0,hi,hz0,hz1,hz2⟩:=info_parts wC;obtain ⟨m1,amQ⟩:∃ m1,max na nb=m1:=⟨_,rfl⟩;have hmi:(if (na:Int)<(nb:Int) then (nb:Int) else (na:Int))=(m1:Int):=by split<;>omega
 have amR:(if na<nb then (nb:Int) else (na:Int))=(m1:Int):=by split<;>omega
 have amS:max (na:Int) (nb:Int)=(m1:Int):=by omega
 have amT:(m1:Int)+1=(m:Int):=by omega
 have amU:na<m:=by omega
 have amV:nb<m:=by omega
 have hfit:BB^na+BB^nb≤BB^m:=by
  have h1:BB^na≤BB^(m-1):=Nat.pow_le_pow_right (by decide) (by omega);have h2:BB^nb≤BB^(m-1):=Nat.pow_le_pow_right (by decide) (by omega);have h3:BB^m=BB^(m-1)*BB:=by rw [← Nat.pow_succ];congr 1;omega
  rw [h3];unfold BB at *;omega
 have HW:Hid (bI gm+bI bs<BB^m):=by rw [Hid];omega
 obtain ⟨B,hB⟩:∃ B,w.heap.size=B:=⟨_,rfl⟩;clear wa wb hfit hna hnb hm;rw [hB];have Hu:=Lib.hid hB;go_enter func192,ntmps192
 go_wp2_with (first
  | (at_make;refine wpList_make_full _ rfl _ _ 145 rfl w.heap.size 111 i0 (.int .u64 0) 1 underlying145 hi hz0 hz1 _ _ _ _ m rfl rfl (by omega) (by omega) (by rw [hz2];omega) (by unfold maxLen;omega) (Nat.le_refl _) ?_;intro w1 hown hgrow;have ho0:=Ow.zeros hown;rw [hB] at ho0;have hE0:Ext w w1:=(Ext.refl w).grown hgrow (Nat.le_refl _) (fun _ h=>by cases h);have ha1:=(ha.new (g:=B) (by omega)).below hE0;have hb1:=(hb.new (g:=B) (by omega)).below hE0;clear hown hgrow)
  | (refine vo (o:=⟨some 15,_,_,_,_,_⟩) rfl (.tmp 13) (.tmp 14) rfl B 0 m m A na ca rfl rfl B m m (List.replicate m 0) ho0 gm ha1 (by omega) (by omega) ?_;intro w2 hown2 Vm)
  | fail)
 have hsp:=zx (List.replicate m 0) gm 0 (by simp;rw [HNA.out];omega) (fun j _ _=>jL m j);have hsl:=Cx (List.replicate m 0) gm 0 (fun x hx=>by simp at hx;omega) la;have hb2:=hb1.but Vm;refine (sM w2 B B m m 0 m m _ bs _ hown2 hsl (by omega) (Nat.le_refl _) (by omega) hb2 (by rw [HNB.out];omega)).mono ?_;rintro e w3 ⟨⟨o',cy,rfl,HA,hown3⟩,hB3⟩;have hval:=HA.val;rw [hsp,mZ,Nat.pow_zero,Nat.one_mul,Nat.one_mul,Nat.zero_add,Nat.zero_add] at hval
 have hcy:cy=0:=by
  have h1:=HW.out;rcases Nat.eq_zero_or_pos cy with h | h
  · exact h
  · have:cy=1:=(by have:=HA.Ec;omega);subst this;omega
 rw [hcy,Nat.mul_zero,Nat.add_zero] at hval;have HF:Hid (∃ o,Ow w3 B (.slice (some ⟨B,0,none⟩) m m) o∧bI o=bI gm+bI bs∧(∀ x∈o,x<18446744073709551616)∧o.length=m):=⟨o',hown3,hval,HA.lt,HA.len⟩;have fV:Ext w w3:=(hE0.but Vm (by omega)).but hB3 (by omega);clear hval hown3 hown2 HA hB3 Vm hsp hsl ha1 hb1 hb2 hE0 ho0 hcy;go_wp2;go_ret;exact ⟨rfl,HF.out,fV⟩
theorem R9 (w:World) (A:Option Addr) (l c n k:Nat) (hl:l≤c) (hk:min n l=k) (hn:n≤1000000) :Calls prog 194 #[.slice A l c,.int .i64 (n:Nat)] w fun e w'=>e = .returned (.slice A k c)∧w=w':=by
 have hki:(if (l:Int)<(n:Int) then (l:Int) else (n:Int))=(k:Int):=by split<;>omega
 have amW:(if l<n then (l:Int) else (n:Int))=(k:Int):=by split<;>omega
 have amX:min (n:Int) (l:Int)=(k:Int):=by omega
 have hkl:k≤c:=by omega
 clear hk;go_enter func194,ntmps194;go_wp2;go_ret;exact ⟨rfl,rfl⟩
theorem Ie (o:List Nat) (m:Nat):bI (o++List.replicate m 0)=bI o:=by rw [kW,mZ,Nat.mul_zero,Nat.add_zero]
theorem yO (m:Nat):Builtin.zeroCells #[Value.int .u64 0] m=(qy (List.replicate m 0)).toArray:=by
 apply Array.ext';unfold Builtin.zeroCells;rw [IV];simp;apply List.ext_getElem
 · simp
 · intro i h1 h2;simp at h1 ⊢;rw [Nat.mod_one];rfl
theorem JV (w:World) (base g n c m:Nat) (o:List Nat) (hown:Ow w base (.slice (some ⟨g,0,none⟩) n c) o) (h:n+m≤1000000) (hb:base≤w.heap.size) :∃ g' c' w',(Builtin.append_ #[145,3] 145 #[.slice (some ⟨g,0,none⟩) n c,.int .i64 (m:Nat)]).run prog w = .ok (.slice (some ⟨g',0,none⟩) (n+m) c') w' ∧Ow w' base (.slice (some ⟨g',0,none⟩) (n+m) c') (o++List.replicate m 0)∧(g'=g∨g'=w.heap.size)∧w.grownBy w' (some g):=by
 have afd:=hown.caps;have hgb:=hown.block;obtain ⟨i0,hi,hz0,hz1,hz2⟩:=info_parts wC;have hk:prog.underlying 3 = some (.int .i64):=by kernel_rfl
 have hh0:w.ownsRow base 111 1 (.slice (some ⟨g,0,none⟩) n c) o.length (qy o):=hown;have hmw:IntKind.i64.wrap (m:Int)=(m:Int):=IntWalk.i64_in _ (by omega);have hneg:¬ ((m:Int)<0):=by omega
 have hmb:¬ (281474976710656<(m:Int)*8):=by omega
 have hzc:(Value.int .u64 0).cells=#[Value.int .u64 0]:=rfl;have ha:∀ (k:Int) W,Sem.run prog (asInt (Value.int IntKind.i64 k)) W=Result.ok k W:=fun _ _=>rfl;have hw0:IntKind.i64.wrap 0=0:=by decide
 rcases hh0.2 with ⟨h1,_⟩ | ⟨g',cap,cur,h1,hg,hh,h2,h3,h4,h5⟩
 · cases h1
 · injection h1 with e1 e2 e3;injection e1 with e1;injection e1 with e1;subst e1 e3;rw [← e2] at h2 h5;by_cases hroom:n+m≤c
   · have hst:=run_storeCells_at prog g n 111 (qy (List.replicate m 0)) 0 cur w hh (by rw [gN,List.length_replicate];omega) (by intro u hu;obtain ⟨z,_,rfl⟩:=List.mem_map.1 hu;rfl);simp only [Nat.add_zero] at hst;have hz1':∀ mm,¬ mm=0→(Builtin.zeroCells #[Value.int .u64 0] mm).toList=qy (List.replicate mm 0):=fun mm _=>by rw [yO]
     refine ⟨g,c,w.setRow g (cur.toList.take n++qy (List.replicate m 0)++cur.toList.drop (n+(qy (List.replicate m 0)).length)).toArray,?_,?_,.inl rfl,⟨rfl,rfl,rfl,by simp [World.setRow],fun k _ hk=>setRow_other w g k _ (fun e=>hk (by rw [e]))⟩⟩
     · rcases Nat.eq_zero_or_pos m with h0 | h0
       · subst h0;have e:w.setRow g (cur.toList.take n++qy (List.replicate 0 0)++cur.toList.drop (n+(qy (List.replicate 0 0)).length)).toArray=w:=(by have:(cur.toList.take n++qy (List.replicate 0 0)++cur.toList.drop (n+(qy (List.replicate 0 0)).length)).toArray=cur:=(by simp [qy]);rw [this,setRow_self w g cur _ _ hh]);rw [e];have hroom':n≤c:=(by omega);simp [Builtin.append_,run_underlying underlying145,run_underlying hk,sizeOf,typeInfo,hi,hz2,hroom',storeCells,ha,hw0]
       · have h0':¬ m=0:=(by omega);simp [Builtin.append_,run_underlying underlying145,run_underlying hk,sizeOf,typeInfo,zeroValue,hi,hz0,hz1,hz2,hroom,hmw,hneg,hmb,h0',hzc,Addr.add_lit,hz1' m h0',hst,ha]
     · have hl:(qy (List.replicate m 0)).length=m:=(by rw [gN,List.length_replicate]);refine ⟨by rw [gN,Nat.mul_one],.inr ⟨g,c,_,by rw [List.length_append,List.length_replicate,← e2],hg,setRow_heap w g _ _ _ _ hh,by rw [List.length_append,List.length_replicate,← e2];exact hroom,h3,?_,?_⟩⟩
       · rw [hl];simp only [List.size_toArray,List.length_append,List.length_take,List.length_drop,Array.length_toList (xs:=cur),hl];omega
       · rw [Nat.mul_one] at h5 ⊢;rw [h5,List.length_append,List.length_replicate,hl,FZ];rw [List.take_append_of_le_length (by rw [List.length_append,gN,hl];exact Nat.le_refl _),List.take_of_length_le (by rw [List.length_append,gN,hl];exact Nat.le_refl _)]
   · have hm0:¬ m=0:=(by omega);have h63':¬ (9223372036854775807<(n:Int)+(m:Int)):=(by omega);have h48':¬ (281474976710656<Builtin.nextslicecap (n+m) c*8):=(by have:=growslice_fits (need:=n+m) (old:=c) (bytes:=8) (by omega) (by omega);omega);have hxl:(qy o).length=n*1:=(by rw [gN,e2,Nat.mul_one]);have holds:∀ j u,(qy o)[j]?=some u→w.cell? ((⟨g,0,none⟩:Addr).add j)=some u:=hh0.cells (g:=g) rfl;have hfo:=run_firstCells_some (P:=prog) w.drew 1 n ⟨g,0,none⟩ n c (qy o) hxl (by simpa using holds);have hge:=grownCap_ge w (n+m) c 111;have hcm:grownCap w (n+m) c 111 ≤ maxLen:=grownCap_le_maxLen w (n+m) c 111 (by unfold maxLen;omega);have hz2':=yO m;refine ⟨w.heap.size,grownCap w (n+m) c 111,w.drew.alloc (.cells ((qy o).toArray++(qy (List.replicate m 0)).toArray++Builtin.zeroCells #[Value.int .u64 0] (grownCap w (n+m) c 111 - (n+m))) 111),?_,?_,.inr rfl,⟨rfl,rfl,rfl,by simp,fun k hk _=>heap_alloc_old w.drew _ hk⟩⟩
     · simp [Builtin.append_,run_underlying underlying145,run_underlying hk,sizeOf,typeInfo,zeroValue,hi,hz0,hz1,hz2,hroom,hmw,hneg,hmb,hm0,hzc,h63',h48',Question.forced,hfo,newRow,grownCap,hz2',ha];have e3:∀ Z:Array Value,(qy o).toArray++((qy (List.replicate m 0)).toArray++Z)=(qy o++qy (List.replicate m 0)).toArray++Z:=fun Z=>by apply Array.ext';simp
       rw [e3]
     · refine ⟨by rw [gN,Nat.mul_one],.inr ⟨w.heap.size,_,_,by rw [List.length_append,List.length_replicate,← e2],hb,heap_alloc_new w.drew _,by rw [List.length_append,List.length_replicate,← e2];exact hge,hcm,?_,?_⟩⟩
       · simp only [Array.size_append,List.size_toArray,size_zeroCells,gN,List.length_replicate];rw [← e2];simp;omega
       · simp only [Array.toList_append,Nat.mul_one];rw [← FZ,← gN (o++List.replicate m 0)];exact List.take_left
theorem F4 {w:World} {ops:Array Oper} {rest:List Oper} {o:Oper} {a:Act} {Q:Exit→Act→World→Prop} (hgd:o.guard=none) (s x:Operand) (hty:o.type = 145) (ho:o.op = .call { callee:=.builtin .append,args:=#[s,x],argTypes:=#[145,3] }) (g n c m base:Nat) (os:List Nat) (hs:a.eval s = .slice (some ⟨g,0,none⟩) n c) (hx:a.eval x = .int .i64 (m:Nat)) (hown:Ow w base (.slice (some ⟨g,0,none⟩) n c) os) (hnm:n+m≤1000000) (hb:base≤w.heap.size) (h:∀ g' c' w',Ow w' base (.slice (some ⟨g',0,none⟩) (n+m) c') (os++List.replicate m 0)→(g'=g∨g'=w.heap.size)→w.grownBy w' (some g)→wpList prog ops Q rest (a.put o.dst (.slice (some ⟨g',0,none⟩) (n+m) c')) w'):wpList prog ops Q (o::rest) a w:=by obtain ⟨g',c',w',hr,h1,h2,h3⟩:=JV w base g n c m os hown hnm hb;refine wpList_plain hgd fun K hK=>?_;unfold Oper.wp execOp;simp only [ho,resolve,invoke,builtin,Sem.run_bind,Sem.run_pure,Result.andThen_ok,List.map_toArray,List.map_cons,List.map_nil,hs,hx,hty,hr];exact hK _ _ (h g' c' w' h1 h2 h3)
theorem Mj (A0 A1 B0 B1 P:Nat):(A0+P*A1)*(B0+P*B1)=A0*B0+P*P*(A1*B1)+P*(A0*B1+A1*B0):=by grind
theorem Vn (A0 A1 B0 B1:Nat):(A0+A1)*(B0+B1)-A0*B0-A1*B1=A0*B1+A1*B0:=by grind
theorem acD (A0 A1 B0 B1:Nat):A0*B0≤(A0+A1)*(B0+B1)∧A1*B1≤(A0+A1)*(B0+B1)-A0*B0:=by grind
theorem Mk (o:List Nat) (k:Nat) (hk:k≤o.length) (h:bI o<BB^k):bI (o.take k)=bI o:=by
 have e:=oQ o k hk;rcases Nat.eq_zero_or_pos (bI (o.drop k)) with h0 | h0
 · grind
 · have:BB^k*1≤BB^k*bI (o.drop k):=Nat.mul_le_mul_left _ h0;omega
theorem JW {gm bs:List Nat} (ha:∀ x∈gm,x<18446744073709551616) (hb:∀ x∈bs,x<18446744073709551616):bI gm*bI bs<BB^(gm.length+bs.length):=by rw [Nat.pow_add];exact Nat.mul_lt_mul'' (yY gm ha) (yY bs hb)
theorem Ov (zl n n2 m1 m2 r k:Nat) (o1 o2 o5 A0 A1 B0 B1 gm bs:List Nat) (hlen1:o1.length=n2) (Qt:o2.length=m1) (aaZ:o5.length=m2) (hl1:∀ x∈o1,x<18446744073709551616) (hl2:∀ x∈o2,x<18446744073709551616) (hn2:n+n=n2) (hz:n2+m1=zl) (hr:n+r=zl) (hk:min r m2=k) (hv1:bI o1=bI A0*bI B0) (hv2:bI o2=bI A1*bI B1) (hmid:bI o5=bI A0*bI B1+bI A1*bI B0) (ea:bI gm=bI A0+BB^n*bI A1) (eb:bI bs=bI B0+BB^n*bI B1) (hla:∀ x∈gm,x<18446744073709551616) (hlb:∀ x∈bs,x<18446744073709551616) (hlz:gm.length+bs.length=zl) :(∀ x∈splice (splice (List.replicate zl 0) 0 o1) n2 o2,x<18446744073709551616)∧bI (splice (splice (List.replicate zl 0) 0 o1) n2 o2)+BB^n*bI (o5.take k)=bI gm*bI bs ∧bI (splice (splice (List.replicate zl 0) 0 o1) n2 o2)+BB^n*bI (o5.take k)<BB^zl:=by
 have hsp1:=zx (List.replicate zl 0) o1 0 (by rw [List.length_replicate,hlen1];omega) (fun j _ _=>jL zl j);have ah0:=F3 (List.replicate zl 0) o1 0 (by rw [List.length_replicate,hlen1];omega);have hsp2:=zx (splice (List.replicate zl 0) 0 o1) o2 n2 (by rw [ah0,List.length_replicate,Qt];omega) (fun j hj _=>by rw [Ic _ _ _ _ (by rw [List.length_replicate,hlen1];omega) (by rw [hlen1];omega)];exact jL zl j);rw [hsp1,mZ,Nat.zero_add,Nat.pow_zero,Nat.one_mul] at hsp2;have hlO:=Cx (splice (List.replicate zl 0) 0 o1) o2 n2 (Cx (List.replicate zl 0) o1 0 (fun x hx=>by simp at hx;omega) hl1) hl2;have hab:=JW hla hlb;rw [hlz] at hab;have hm:=Mj (bI A0) (bI A1) (bI B0) (bI B1) (BB^n);rw [← ea,← eb,← hv1,← hv2,← hmid,← Nat.pow_add,hn2] at hm
 have htk:bI (o5.take k)=bI o5:=by
  rcases Nat.le_total m2 r with h | h
  · rw [List.take_of_length_le (by omega)]
  · refine Mk o5 k (by omega) ?_;rw [show k=r by omega];have h1:BB^n*bI o5<BB^n*BB^r:=(by rw [← Nat.pow_add,hr];omega);exact Nat.lt_of_mul_lt_mul_left h1
 rw [htk,hsp2];exact ⟨hlO,hm.symm,by omega⟩
theorem JX (N:Nat) (IH:BX N) (w:World) (q1 q2:Nat) (va vb:Value) (gm bs:List Nat) (ha:V q1 w va gm) (hb:V q2 w vb bs) (na nb:Nat) (hna:gm.length=na) (hnb:bs.length=nb) (h1:nb≤na) (h2:na<2*nb) (h3:40≤nb) (h4:na+nb≤N) (h5:na+nb≤20000) :Calls prog 170 #[va,vb,.func (.func 156) #[Wh] #[]] w fun e w'=>Prod w w' e na nb gm bs∧Ext w w':=by
 obtain ⟨ad,ca,hva,hca,hbk,hne,hcell⟩:=ha.opened hna (by omega);obtain ⟨LW,cb,hvb,hcb,hbk2,hne2,hcell2⟩:=hb.opened hnb (by omega);subst hva hvb;clear hcell hcell2;obtain ⟨n,hn⟩:∃ n,(na+1)/2=n:=⟨_,rfl⟩;have hni:((na:Int)+1)/2=(n:Int):=by omega
 have hn1:20≤n:=by omega
 have hn2:n≤na:=by omega
 have hn3:2*n≤na+1:=by omega
 have hn4:na≤2*n:=by omega
 obtain ⟨a1,ha1⟩:∃ a1,na-n=a1:=⟨_,rfl⟩;have ah1:(na:Int)-(n:Int)=(a1:Int):=by omega
 by_cases hc:nb≤n
 · have hd:decide ((nb:Int)≤(n:Int))=true:=(by rw [decide_eq_true_iff];omega);have hE0:=Ext.refl w;have Yc:=Lib.hid IH;have JM:V q1 w (.slice (some ad) n n) (gm.take n):=ha.take hn2 (Nat.le_refl _);have hA1:V q1 w (.slice (some (ad.add n)) a1 (ca-n)) (gm.drop n):=ha.drop hn2 ha1 (by omega);have lA0:(gm.take n).length=n:=(by rw [List.length_take];omega);have lA1:(gm.drop n).length=a1:=(by rw [List.length_drop];omega);have eA:=oQ gm n (by omega);have hab:=JW ha.lim hb.lim;rw [hna,hnb] at hab;have hHL:=Lib.hid (And.intro lA0 (And.intro lA1 hnb));have hEA:=Lib.hid (And.intro eA hab);obtain ⟨A0,Vo⟩:∃ A0,gm.take n=A0:=⟨_,rfl⟩;obtain ⟨A1,Vp⟩:∃ A1,gm.drop n=A1:=⟨_,rfl⟩;rw [Vo] at JM hHL hEA;rw [Vp] at hA1 hHL hEA;clear Vo Vp lA0 lA1 eA hab hna hnb IH ha;obtain ⟨n2,Sa⟩:∃ n2,n+nb=n2:=⟨_,rfl⟩;obtain ⟨m1,Vq⟩:∃ m1,a1+nb=m1:=⟨_,rfl⟩;obtain ⟨zl,hzl⟩:∃ zl,na+nb=zl:=⟨_,rfl⟩;have hk1:n2+a1=zl:=(by omega);have hk2:zl-n=m1:=(by omega);have hk3:n<zl:=(by omega);have hk4:(n:Int)<(zl:Int):=(by omega);have hk5:n<na:=(by omega);have hk6:(n:Int)<(na:Int):=(by omega);have hki:(n2:Int)+(a1:Int)=(zl:Int):=(by omega);go_enter func170,ntmps170;go_wp2_with (fail);simp only [hni];refine (Yc.out _ q1 q2 _ _ A0 bs n nb JM hb hHL.out.1 hHL.out.2.2 (by omega)).mono ?_;rintro e w1 ⟨hp,hB⟩;obtain ⟨g1,c1,o1,rfl,ho1,hv1,hl1,hlen1⟩:=hp.open n2 Sa;have hg1:=ho1.block;have aff:=hA1;have hbw:=hb;clear hp hE0 JM
   go_wp2_with (first
    | (with_reducible show wpList _ _ _ (⟨some 36,_,_,_,_,_⟩::_) _ _;refine Classical.byContradiction fun hcontra=>?_)
    | fail)
   refine hcontra<|F4 (o:=⟨some 36,_,_,_,_,_⟩) rfl (.tmp 31) (.tmp 35) rfl rfl g1 n2 c1 a1 w.heap.size o1 rfl rfl ho1 (by omega) hB.size ?_;intro g2 c2 w2 ho2 hg2 hgr;clear hcontra;rw [hk1] at ho2 ⊢;have hg1':w.heap.size≤g1:=hg1.1;have ah2:w.heap.size≤g2:=(by have:=hB.size;omega);have hE2:Ext w w2:=hB.grown hgr hB.size (fun k e=>by have e':k=g1:=(Option.some.inj e).symm;omega);have hs2:=hgr.size;have afg:V q1 w2 (.slice (some (ad.add n)) a1 (ca-n)) A1:=aff.below hE2;have hb':V q2 w2 (.slice (some LW) nb cb) bs:=hbw.below hE2;have acE:=ho2.block.2;have hzo:bI (o1++List.replicate a1 0)=bI A0*bI bs:=by rw [Ie,hv1]
   have ah3:∀ x∈o1++List.replicate a1 0,x<18446744073709551616:=by
    intro x hx;rcases List.mem_append.1 hx with h | h
    · exact hl1 x h
    · simp at h;omega
   generalize o1++List.replicate a1 0=O at *;have hT:=Lib.hid (Yc.out w2.drew q1 q2 _ _ A1 bs a1 nb afg hb' hHL.out.2.1 hHL.out.2.2 (by omega));have afh:Ow w2.drew w.heap.size (.slice (some ⟨g2,0,none⟩) zl c2) O:=ho2;clear afg hb' aff hbw hA1 hb hgr hB ho1 hl1 hlen1 hv1;have hk7:n+m1=zl:=(by omega);have hcz:m1≤c2-n:=(by have:=ho2.caps;omega);have ah4:zl≤1000000:=(by omega);have am0:n<c2:=(by have:=ho2.caps;omega);have akA:(n:Int)<(c2:Int):=(by omega);have am1:zl≤c2:=(by have:=ho2.caps;omega);have akB:(zl:Int)≤(c2:Int):=(by omega);have am2:(n:Int)≤(zl:Int):=(by omega);have akC:(n:Int)≤(c2:Int):=(by omega);have am3:(0:Int)≤(n:Int):=(by omega);have akD:(n:Int)≤(na:Int):=(by omega);have am4:(na:Int)≤(ca:Int):=(by omega);have akE:(n:Int)≤(ca:Int):=(by omega);have am5:n<ca:=(by omega);have ah5:¬ (ca=n):=(by omega);have akF:¬ (c2=n):=(by omega);have akG:(n:Int)<(ca:Int):=(by omega);clear ho2 hn hn3 hn4 hc hd Sa h1 h2 h3 h4 h5 hbk hbk2 hne hne2 hca hcb hs2 acE;go_wp2_with (fail)
   go_region_held3 (fun X=>True)
    (first
     | exact trivial)
    (first
     | (go_at_call 156;((with_reducible refine hT.out.mono ?_);rintro e w3 ⟨hp,hB3⟩;obtain ⟨g3,c3,o3,rfl,ho3,hv3,hl3,hlen3⟩:=hp.open m1 Vq;have afi:=afh.ext hB3;have hg3:=ho3.block.1;have acE:=afh.block.2;have hV3:=ho3.KZ hl3 g2 (by omega)))
     | (go_at_call 159;((with_reducible refine (sM w3 g2 w.heap.size zl c2 n m1 (c2-n) O o3 _ afi ah3 (Nat.le_of_eq hk7) hcz ah4 hV3 (Nat.le_of_eq hlen3)).mono ?_);rintro e w4 ⟨⟨o6,cy6,rfl,zK,ho6⟩,hB4⟩)))
   have hval:bI O+BB^n*bI o3=bI gm*bI bs:=(by rw [hzo,hv3,hEA.out.1,Nat.add_mul,Nat.mul_assoc]);have hv6:=zK.done hk7 (by rw [hval,← hzl];exact hEA.out.2);rw [hval] at hv6;have HF:Hid (Prod w w4 (.returned (.slice (some ⟨g2,0,none⟩) zl c2)) na nb gm bs):=(by refine ⟨g2,c2,o6,by rw [hzl],?_,hv6,zK.lt⟩;rw [hzl];exact ho6);have Yy:Ext w w4:=(hE2.drew.below hB3).but hB4 ah2;clear hv6 zK ho6 hB4 hB3 hval hT hV3 afi ho3 hp;go_wp2;go_ret;exact ⟨HF.out,Yy⟩
 · obtain ⟨b1,hb1⟩:∃ b1,nb-n=b1:=⟨_,rfl⟩;have hd:decide ((nb:Int)≤(n:Int))=false:=(by rw [decide_eq_false_iff_not];omega);have hE0:=Ext.refl w;have Yc:=Lib.hid IH;have JM:V q1 w (.slice (some ad) n n) (gm.take n):=ha.take hn2 (Nat.le_refl _);have hA1:V q1 w (.slice (some (ad.add n)) a1 (ca-n)) (gm.drop n):=ha.drop hn2 ha1 (by omega);have hB0:V q2 w (.slice (some LW) n n) (bs.take n):=hb.take (by omega) (Nat.le_refl _);have hB1:V q2 w (.slice (some (LW.add n)) b1 (cb-n)) (bs.drop n):=hb.drop (by omega) hb1 (by omega);have lA0:(gm.take n).length=n:=(by rw [List.length_take];omega);have lA1:(gm.drop n).length=a1:=(by rw [List.length_drop];omega);have lB0:(bs.take n).length=n:=(by rw [List.length_take];omega);have lB1:(bs.drop n).length=b1:=(by rw [List.length_drop];omega);have eA:=oQ gm n (by omega);have eB:=oQ bs n (by omega);have Eh:Hid (gm.length+bs.length=na+nb):=(by rw [Hid,hna,hnb]);have HLA:=Lib.hid ha.lim;have HLB:=Lib.hid hb.lim;have HE:=Lib.hid (And.intro eA eB);have HL:=Lib.hid (And.intro lA0 (And.intro lA1 (And.intro lB0 lB1)));have hnn:n≤nb:=(by omega);clear ha hb IH hn hna hnb eA eB lA0 lA1 lB0 lB1;obtain ⟨A0,Vo⟩:∃ A0,gm.take n=A0:=⟨_,rfl⟩;obtain ⟨A1,Vp⟩:∃ A1,gm.drop n=A1:=⟨_,rfl⟩;obtain ⟨B0,afk⟩:∃ B0,bs.take n=B0:=⟨_,rfl⟩;obtain ⟨B1,afl⟩:∃ B1,bs.drop n=B1:=⟨_,rfl⟩;rw [Vo] at JM HL HE;rw [Vp] at hA1 HL HE;rw [afk] at hB0 HL HE;rw [afl] at hB1 HL HE;clear Vo Vp afk afl;obtain ⟨n2,Sa⟩:∃ n2,n+n=n2:=⟨_,rfl⟩;obtain ⟨m1,Vq⟩:∃ m1,a1+b1=m1:=⟨_,rfl⟩;obtain ⟨m2,acG⟩:∃ m2,(n+1)+(n+1)=m2:=⟨_,rfl⟩;go_enter func170,ntmps170;go_wp2_with (fail);simp only [hni];go_quiet (fail);go_wp2_with (fail);have hE1:Ext w (w.drewN nq):=kI w nq;refine (Yc.out _ q1 q2 _ _ A0 B0 n n (JM.below hE1) (hB0.below hE1) HL.out.1 HL.out.2.2.1 (by omega)).mono ?_;rintro e w1 ⟨hp,hB⟩;obtain ⟨g1,c1,o1,rfl,ho1,hv1,hl1,hlen1⟩:=hp.open n2 Sa;replace hE1:=hE1.below hB;clear hp hB;go_wp2_with (fail);refine (Yc.out _ q1 q2 _ _ A1 B1 a1 b1 (hA1.below hE1) (hB1.below hE1) HL.out.2.1 HL.out.2.2.2 (by omega)).mono ?_;rintro e w2 ⟨hp,hB⟩;obtain ⟨g2,c2,o2,rfl,ho2,hv2,hl2,Qt⟩:=hp.open m1 Vq;replace hE1:=hE1.below hB;have hg1:=ho1.block;replace ho1:=ho1.ext hB;have hs2:=hB.size;clear hp hB;go_wp2_with (fail);have hmx:max n a1+1=n+1:=(by omega);have afm:max n b1+1=n+1:=(by omega);refine (IU w2 q1 _ _ A0 A1 (JM.below hE1) (hA1.below hE1) (n+1) (by rw [HL.out.1,HL.out.2.1];exact hmx) (by omega)).mono ?_;rintro e w3 ⟨rfl,⟨s1,hs1,afn,hsl1,Vr⟩,hB⟩;replace hE1:=hE1.below hB;have hg2:=ho2.block;replace ho1:=ho1.ext hB;replace ho2:=ho2.ext hB;have hs3:=hB.size;have hb3:=hs1.block;obtain ⟨g3,hg3⟩:∃ g3,w2.heap.size=g3:=⟨_,rfl⟩;rw [hg3] at hs1 hb3 ⊢;clear hB;go_wp2_with (fail);refine (IU w3 q2 _ _ B0 B1 (hB0.below hE1) (hB1.below hE1) (n+1) (by rw [HL.out.2.2.1,HL.out.2.2.2];exact afm) (by omega)).mono ?_;rintro e w4 ⟨rfl,⟨s2,Zh,afo,hsl2,Vs⟩,hB⟩;replace hE1:=hE1.below hB;replace ho1:=ho1.ext hB;replace ho2:=ho2.ext hB;replace hs1:=hs1.ext hB;have hs4:=hB.size;have hb4:=Zh.block;obtain ⟨g4,hg4⟩:∃ g4,w3.heap.size=g4:=⟨_,rfl⟩;rw [hg4] at Zh hb4 ⊢;clear hB;go_wp2_with (fail);have hsw:=hE1.size;refine (Yc.out w4 (g3+1) (g4+1) _ _ s1 s2 (n+1) (n+1) (hs1.KZ hsl1 (g3+1) (by omega)) (Zh.KZ hsl2 (g4+1) (by omega)) Vr Vs (by omega)).mono ?_;rintro e w5 ⟨hp,hB⟩;obtain ⟨g5,c5,o3,rfl,ho3,hv3,hl3,hlen3⟩:=hp.open m2 acG;replace hE1:=hE1.below hB;replace ho1:=ho1.ext hB;replace ho2:=ho2.ext hB;have hb5:=ho3.block;have Qf:=ho3.caps.2.1;obtain ⟨Vt,Qu⟩:=acD (bI A0) (bI A1) (bI B0) (bI B1);rw [afn,afo] at hv3;rw [← hv1,← hv3] at Vt;rw [← hv1,← hv2,← hv3] at Qu;have hmid:=Vn (bI A0) (bI A1) (bI B0) (bI B1);rw [← hv1,← hv2,← hv3] at hmid;clear hp hB hs1 Zh afn afo hsl1 hsl2 Vr Vs;go_wp2_with (fail);refine (xy w5 g5 w4.heap.size m2 c5 0 m2 c5 o3 o1 _ ho3 hl3 (by omega) Qf (by omega) (ho1.KZ hl1 g5 (by omega)) (by rw [hlen1];omega)).mono ?_;rintro e w6 ⟨rfl,⟨o4,cy4,vV,ho4⟩,tJ⟩;rw [Nat.pow_zero,Nat.one_mul] at vV;have hv4:=vV.done (Nat.zero_add _) Vt;have hl4:=vV.lt;rw [← hv4] at Qu hmid;replace hE1:=hE1.but tJ (by omega);replace ho1:=ho1.but tJ (by omega);replace ho2:=ho2.but tJ (by omega);have hs6:=tJ.size;clear tJ vV hv4 ho3 hl3 hlen3 hv3 Vt;go_wp2_with (fail);refine (xy w6 g5 w4.heap.size m2 c5 0 m2 c5 o4 o2 _ ho4 hl4 (by omega) Qf (by omega) (ho2.KZ hl2 g5 (by omega)) (by rw [Qt];omega)).mono ?_;rintro e w7 ⟨rfl,⟨o5,cy5,hS5,ho5⟩,Vu⟩;rw [Nat.pow_zero,Nat.one_mul] at hS5;have hv5:=hS5.done (Nat.zero_add _) Qu;have hl5:=hS5.lt;have aaZ:=hS5.len;rw [← hv5] at hmid;replace hE1:=hE1.but Vu (by omega);replace ho1:=ho1.but Vu (by omega);replace ho2:=ho2.but Vu (by omega);have hs7:=Vu.size;clear Vu hS5 hv5 ho4 hl4 Qu;obtain ⟨i0,hi,hz0,hz1,hz2⟩:=info_parts wC;obtain ⟨zl,hzl⟩:∃ zl,na+nb=zl:=⟨_,rfl⟩;have h5':na+nb=zl→zl≤20000:=fun h=>by rw [← h];exact h5
   have am6:(na:Int)+(nb:Int)=(zl:Int):=(by omega);have h2n:(2:Int)*(n:Int)=(n2:Int):=(by omega);have hzn:zl-n2=m1:=(by omega);obtain ⟨g8,hg8⟩:∃ g8,w7.heap.size=g8:=⟨_,rfl⟩;have ah7:=Lib.hid hmid;have afp:=Lib.hid (And.intro hv1 hv2);have hV1:V g8 w7 _ o1:=ho1.KZ hl1 g8 (by omega);have hV2:V g8 w7 _ o2:=ho2.KZ hl2 g8 (by omega);have hV5:V g8 w7 _ o5:=ho5.KZ hl5 g8 (by have:=ho5.block;omega);have am8:n2≤zl:=(by omega);have hz1b:zl≤20000:=h5' hzl;have am9:n≤zl:=(by omega);have ana:(0:Int)≤(n2:Int):=(by omega);have anb:n2<zl:=(by omega);have anc:(n2:Int)<(zl:Int):=(by omega);have ane:0<m1:=(by omega);have anf:(n2:Int)≤(zl:Int):=(by omega);have hk5:n2+m1=zl:=(by omega);have hH:Hid (na+nb=zl∧n+n=n2∧a1+b1=m1∧(n+1)+(n+1)=m2∧na-n=a1∧nb-n=b1∧n≤na∧n≤nb∧20≤n∧w.heap.size≤g8):=⟨hzl,Sa,Vq,acG,ha1,hb1,hn2,hnn,hn1,by rw [← hg8];exact hE1.size⟩;clear hmid hv1 hv2 ho1 ho2 ho5 hs2 hs3 hs4 hs6 hs7 hb3 hb4 hb5 hg1 hg2 hg3 hg4 hE0 JM hA1 hB0 hB1 hmx afm hca hcb hbk hbk2 hne hne2 hsw Yc h1 h2 h3 h4 h5 hn1 hn2 hn3 hn4 ha1 hb1 hnn Sa Vq acG hzl ah1 hc hd h5'
   go_wp2_with (first
    | (at_make;refine wpList_make_full _ rfl _ _ 145 rfl w7.heap.size 111 i0 (.int .u64 0) 1 underlying145 hi hz0 hz1 _ _ _ _ zl rfl rfl (by omega) (by omega) (by rw [hz2];omega) (by unfold maxLen;omega) (Nat.le_refl _) ?_;intro w8 hown hgrow;have hz:=Ow.zeros hown;rw [hg8] at hz;have D6:Ext w7 w8:=(Ext.refl w7).grown hgrow (Nat.le_refl _) (fun _ h=>by cases h);have ah8:=hV1.below D6;have ah9:=hV2.below D6;have ah':=hV5.below D6;have hE9:=hE1.below D6;clear hown hgrow)
    | (with_reducible show wpList _ _ _ _ _ _;refine vo (o:=⟨some 92,_,_,_,_,_⟩) rfl (.tmp 90) (.tmp 91) rfl g8 0 zl zl (some ⟨g1,0,none⟩) n2 c1 rfl rfl g8 zl zl (List.replicate zl 0) hz o1 ah8 (by omega) (by omega) ?_;intro w9 RV hb9;have aib:=ah9.but hb9;have aic:=ah'.but hb9)
    | (with_reducible show wpList _ _ _ _ _ _;refine vo (o:=⟨some 98,_,_,_,_,_⟩) rfl (.tmp 96) (.tmp 97) rfl g8 n2 m1 m1 (some ⟨g2,0,none⟩) m1 c2 rfl rfl g8 zl zl _ RV o2 aib (Nat.le_refl _) (by omega) ?_;intro Vv afq afr;have aa0:=aic.but afr)
    | fail)
   obtain ⟨r,hr⟩:∃ r,zl-n=r:=⟨_,rfl⟩;obtain ⟨k,hk⟩:∃ k,min r m2=k:=⟨_,rfl⟩;have hri:(zl:Int)-(n:Int)=(r:Int):=(by omega);have hnz:n<zl:=(by omega);have hrw:IntKind.i64.wrap (r:Int)=(r:Int):=IntWalk.i64_in _ (by omega);have ang:(n:Int)<(zl:Int):=(by omega);have hO:=Lib.hid (Ov zl n n2 m1 m2 r k o1 o2 o5 A0 A1 B0 B1 gm bs hlen1 Qt aaZ hl1 hl2 hH.out.2.1 hk5 (by omega) hk afp.out.1 afp.out.2 ah7.out HE.out.1 HE.out.2 HLA.out HLB.out (by rw [← hH.out.1];exact Eh.out));generalize splice (splice (List.replicate zl 0) 0 o1) n2 o2=O at *;have afs:Ow Vv.drew g8 (.slice (some ⟨g8,0,none⟩) zl zl) O:=afq;have hV6:V g8 Vv.drew (.slice (some ⟨g5,0,none⟩) k c5) (o5.take k):=(aa0.take (by omega) (by omega)).below (Ext.refl Vv).drew;have hkl:(o5.take k).length≤r:=(by rw [List.length_take];omega);have Yd:Ext w Vv:=(by have h:=hH.out.2.2.2.2.2.2.2.2.2;exact (hE9.but hb9 h).but afr h);have afu:=fun W=>R9 W (some ⟨g5,0,none⟩) m2 c5 r k Qf hk (by omega);have hAdd:=sM Vv.drew g8 g8 zl zl n r r O (o5.take k) _ afs hO.out.1 (by omega) (Nat.le_refl _) (by omega) hV6 hkl;have afv:=Lib.hid afu;have HAdd:=Lib.hid hAdd;clear afu hAdd afs hV6 hkl afq aa0
   go_region_held3 (fun X=>True)
    (first
     | exact trivial)
    (first
     | (go_at_call 194;((with_reducible refine (afv.out _).mono ?_);rintro e w' ⟨rfl,rfl⟩))
     | (go_at_call 159;((with_reducible refine HAdd.out.mono ?_);rintro e w11 ⟨⟨o6,cy6,rfl,zK,ho6⟩,JY⟩)))
   have hv6:=zK.done (by omega) hO.out.2.2;rw [hO.out.2.1] at hv6;have HF:Hid (Prod w w11 (.returned (.slice (some ⟨g8,0,none⟩) zl zl)) na nb gm bs):=(by refine ⟨g8,zl,o6,by rw [hH.out.1],?_,hv6,zK.lt⟩;rw [hH.out.1];exact ho6.qM hH.out.2.2.2.2.2.2.2.2.2);have Yy:Ext w w11:=Yd.drew.but JY hH.out.2.2.2.2.2.2.2.2.2;clear hv6 zK ho6 JY Yd hO afv HAdd;go_wp2;go_ret;exact ⟨HF.out,Yy⟩
theorem keepW {x y:World} {B:Nat} {v0 v1 v2:Value} (h:B<x.heap.size∧x.cell? ⟨B,0,none⟩=some v0∧x.cell? ⟨B,1,none⟩=some v1∧x.cell? ⟨B,2,none⟩=some v2) (hB:Ext x y) :B<y.heap.size∧y.cell? ⟨B,0,none⟩=some v0∧y.cell? ⟨B,1,none⟩=some v1∧y.cell? ⟨B,2,none⟩=some v2:=by obtain ⟨h0,h1,h2,h3⟩:=h;have hc:=fun o=>hB.cell (p:=⟨B,o,none⟩) h0;exact ⟨Nat.lt_of_lt_of_le h0 hB.size,by rw [hc];exact h1,by rw [hc];exact h2,by rw [hc];exact h3⟩
theorem acH {x y:World} {B g:Nat} {v0 v1 v2:Value} (h:B<x.heap.size∧x.cell? ⟨B,0,none⟩=some v0∧x.cell? ⟨B,1,none⟩=some v1∧x.cell? ⟨B,2,none⟩=some v2) (hB:But g x y) (hne:B≠g) :B<y.heap.size∧y.cell? ⟨B,0,none⟩=some v0∧y.cell? ⟨B,1,none⟩=some v1∧y.cell? ⟨B,2,none⟩=some v2:=by obtain ⟨h0,h1,h2,h3⟩:=h;have hc:=fun o=>hB.cell (p:=⟨B,o,none⟩) h0 hne;exact ⟨Nat.lt_of_lt_of_le h0 hB.size,by rw [hc];exact h1,by rw [hc];exact h2,by rw [hc];exact h3⟩
structure TmI (xs ys:List Nat) (n a:Nat) (o:List Nat):Prop where
 len:o.length=n
 lt:∀ x∈o,x<18446744073709551616
 val:bI o=bI (xs.take a)*bI ys
theorem F5 (N:Nat) (hN:N≤20000) (IH:BX N) (b:Bool) (w:World) (q1 q2:Nat) (vx vy:Value) (xs ys:List Nat) (nx ny:Nat) (hx:V q1 w vx xs) (hy:V q2 w vy ys) (hnx:xs.length=nx) (hny:ys.length=ny) (hle:ny≤nx) (hb:b=true→ny<nx) (hsum:nx+ny≤N) :Calls prog 156 #[Wh,(if b then vy else vx),(if b then vx else vy)] w fun e w'=>Prod w w' e nx ny xs ys∧Ext w w':=by
 have Yc:=Lib.hid IH;have hle':=hle;obtain ⟨A,ca,rfl,hca⟩:=hx.shape;obtain ⟨A2,cb,rfl,hcb⟩:=hy.shape;rw [hnx] at hx hca ⊢;rw [hny] at hy hcb ⊢;have hE0:Ext w (w.alloc (.cells #[.int .i64 40,.func (.func 170) #[] #[],.func (.func 152) #[] #[]] 151)):=(Ext.refl w).alloc _;replace hx:=hx.below hE0;replace hy:=hy.below hE0;have HL:Hid (xs.length=nx∧ys.length=ny):=⟨hnx,hny⟩;clear IH hnx hny;have hb0:w.heap.size<(w.alloc (.cells #[.int .i64 40,.func (.func 170) #[] #[],.func (.func 152) #[] #[]] 151)).heap.size:=by simp
 have hc0:(w.alloc (.cells #[.int .i64 40,.func (.func 170) #[] #[],.func (.func 152) #[] #[]] 151)).cell? ⟨w.heap.size,0,none⟩=some (.int .i64 40):=by go_simp
 have hc1:(w.alloc (.cells #[.int .i64 40,.func (.func 170) #[] #[],.func (.func 152) #[] #[]] 151)).cell? ⟨w.heap.size,1,none⟩=some (.func (.func 170) #[] #[]):=by go_simp
 have hc2:(w.alloc (.cells #[.int .i64 40,.func (.func 170) #[] #[],.func (.func 152) #[] #[]] 151)).cell? ⟨w.heap.size,2,none⟩=some (.func (.func 152) #[] #[]):=by go_simp
 obtain ⟨B,hB⟩:∃ B,w.heap.size=B:=⟨_,rfl⟩;rw [hB] at hc0 hc1 hc2 hb0;have Hu:=Lib.hid hB;cases b
 case' false =>
  show Calls prog 156 #[Wh,.slice A nx ca,.slice A2 ny cb] w _;have hd:decide ((nx:Int)<(ny:Int))=false:=by rw [decide_eq_false_iff_not];omega
  go_enter func156,ntmps156;go_upto_region 3 with (fail)
 case' true =>
  show Calls prog 156 #[Wh,.slice A2 ny cb,.slice A nx ca] w _;have hlt:=hb rfl;have hd:decide ((ny:Int)<(nx:Int))=true:=by rw [decide_eq_true_iff];omega
  go_enter func156,ntmps156;go_upto_region 3 with (fail)
 all_goals
  clear hb hd hle;generalize (w.alloc (.cells #[.int .i64 40,.func (.func 170) #[] #[],.func (.func 152) #[] #[]] 151))=W1 at *;by_cases h1:ny<40
  · have hd1:decide ((ny:Int)<40)=true:=(by rw [decide_eq_true_iff];omega);go_wp2_with (fail);refine (F6 _ q1 q2 _ _ xs ys hx hy nx ny HL.out.1 HL.out.2 (by omega)).mono ?_;rintro e w2 ⟨hp,hB2⟩;replace hp:=hp.base hE0;have hE2:=hE0.below hB2;have HP:=Lib.hid hp;obtain ⟨g,c,o,rfl,_⟩:=hp;go_wp2;go_ret;exact ⟨HP.out,hE2⟩
  · have hd1:decide ((ny:Int)<40)=false:=(by rw [decide_eq_false_iff_not];omega);by_cases h2:nx<2*ny
    · have hd2:decide ((nx:Int)<2*(ny:Int))=true:=(by rw [decide_eq_true_iff];omega);go_wp2_with (fail);refine (JX N Yc.out _ q1 q2 _ _ xs ys hx hy nx ny HL.out.1 HL.out.2 hle' h2 (by omega) hsum (by omega)).mono ?_;rintro e w2 ⟨hp,hB2⟩;replace hp:=hp.base hE0;have hE2:=hE0.below hB2;have HP:=Lib.hid hp;obtain ⟨g,c,o,rfl,_⟩:=hp;go_wp2;go_ret;exact ⟨HP.out,hE2⟩
    · have hd2:decide ((nx:Int)<2*(ny:Int))=false:=(by rw [decide_eq_false_iff_not];omega);have anh:0<ny:=(by omega);obtain ⟨ad,cx,hvx,hcx,hbx,aie,acI⟩:=hx.opened HL.out.1 (by omega);injection hvx with w1 w2 w3;subst w1 w3;clear w2 acI aie hbx hcx;obtain ⟨n,hn⟩:∃ n,nx+ny=n:=⟨_,rfl⟩;have hni:(nx:Int)+(ny:Int)=(n:Int):=(by omega);obtain ⟨i0,hi,hz0,hz1,hz2⟩:=info_parts wC;obtain ⟨Bz,hBz⟩:∃ Bz,W1.heap.size=Bz:=⟨_,rfl⟩;have HBZ:=Lib.hid hBz;go_wp2_with (at_make;refine wpList_make_full _ rfl _ _ 145 rfl W1.heap.size 111 i0 (.int .u64 0) 1 underlying145 hi hz0 hz1 _ _ _ _ n rfl rfl (by omega) (by omega) (by rw [hz2];omega) (by unfold maxLen;omega) (Nat.le_refl _) ?_;intro w2 hown hgrow);have ho0:=Ow.zeros hown;have hE2:Ext W1 w2:=(Ext.refl W1).grown hgrow (Nat.le_refl _) (fun _ h=>by cases h);rw [hBz] at ho0 hb0;clear hown hgrow hi hz0 hz1 hz2 i0;go_wp2_with (fail);have afw:Hid (TmI xs ys n 0 (List.replicate n 0)):=⟨by simp,fun x hx=>by simp at hx;omega,by simp [mZ,bI]⟩;have afx:=Lib.hid hx.lim;have afy:=Lib.hid hy.lim;have ani:2*ny≤nx:=(by omega);clear hd1 hd2 h1 h2 hni hBz;go_loopw [8] (fun t wr=>∃ (a:Nat) (o:List Nat),a≤n∧t = .int .i64 (a:Nat)∧Hid (TmI xs ys n a o)∧Ow wr Bz (.slice (some ⟨Bz,0,none⟩) n n) o∧Ext W1 wr) (fun t _=>nx-(intOf t).toNat);case atStart=>exact ⟨0,_,Nat.zero_le _,rfl,afw,ho0,hE2⟩
      case round =>
       clear afw ho0 hE2;obtain ⟨a,o,han,rfl,HO,hown,hE⟩:=hrel;by_cases hlt:a<nx
       · obtain ⟨e,he⟩:∃ e,min (a+ny) nx=e:=⟨_,rfl⟩;obtain ⟨p,hpe⟩:∃ p,e-a=p:=⟨_,rfl⟩;obtain ⟨r,hrn⟩:∃ r,n-a=r:=⟨_,rfl⟩;have akL:(if (nx:Int)<(a:Int)+(ny:Int) then (nx:Int) else (a:Int)+(ny:Int))=(e:Int):=(by split<;>omega);have akM:min ((a:Int)+(ny:Int)) (nx:Int)=(e:Int):=(by omega);have hmin3:(if nx<a+ny then (nx:Int) else (a:Int)+(ny:Int))=(e:Int):=(by split<;>omega);have f1:a<e:=(by omega);have f2:(a:Int)<(e:Int):=(by omega);have f3:e≤ca:=(by omega);have f4:(e:Int)≤(ca:Int):=(by omega);have f5:(a:Int)≤(e:Int):=(by omega);have f6:¬ (e=a):=(by omega);have f7:(0:Int)≤(a:Int):=(by omega);have f8:a<n:=(by omega);have f9:(a:Int)<(n:Int):=(by omega);have f10:(a:Int)≤(n:Int):=(by omega);have f11:¬ (n=a):=(by omega);have f12:e≤nx:=(by omega);have f13:(0:Int)≤(e:Int):=(by omega);have f14:(e:Int)≤(nx:Int):=(by omega);have f15:p+ny≤r:=(by omega);have f16:a+r=n:=(by omega);have hn6:n≤1000000:=(by omega);have hxp:V q1 wr.drew (.slice (some (ad.add a)) p p) ((xs.take e).drop a):=(((hx.below hE).take f12 (Nat.le_refl e)).drop (Nat.le_of_lt f1) hpe (Nat.le_refl _)).below (Ext.refl wr).drew;have hyd:V q2 wr.drew (.slice A2 ny cb) ys:=(hy.below hE).below (Ext.refl wr).drew;have hlp:((xs.take e).drop a).length=p:=(by rw [List.length_drop,List.length_take,HL.out.1];omega);have hT:=Lib.hid (Yc.out wr.drew q1 q2 _ _ _ ys p ny hxp hyd hlp HL.out.2 (by omega));have hcut:=oQ (xs.take e) a (by rw [List.length_take,HL.out.1];omega);rw [List.take_take,Nat.min_eq_left (by omega)] at hcut;have hHC:=Lib.hid hcut
         have hTE:Hid (xs.take (a+ny)=xs.take e):=by
          rcases Nat.le_total (a+ny) nx with h | h
          · rw [Hid,← he,Nat.min_eq_left h]
          · rw [Hid,← he,Nat.min_eq_right h,List.take_of_length_le (by rw [HL.out.1];exact h),List.take_of_length_le (by rw [HL.out.1];exact Nat.le_refl _)]
         have hprod:Hid (bI (xs.take e)*bI ys<BB^n):=(by have h1:=JW (gm:=xs.take e) (bs:=ys) (fun x h=>afx.out x (List.mem_of_mem_take h)) afy.out;refine Nat.lt_of_lt_of_le h1 (Nat.pow_le_pow_right (by decide) ?_);rw [List.length_take,HL.out.1,HL.out.2];omega);have hS0:B<wr.drew.heap.size∧wr.drew.cell? ⟨B,0,none⟩=some (.int .i64 40)∧wr.drew.cell? ⟨B,1,none⟩=some (.func (.func 170) #[] #[])∧wr.drew.cell? ⟨B,2,none⟩=some (.func (.func 152) #[] #[]):=(by have hq:B<W1.heap.size:=(by rw [HBZ.out];exact hb0);have hc:=fun o=>hE.cell (p:=⟨B,o,none⟩) hq;exact ⟨Nat.lt_of_lt_of_le hq hE.size,(hc 0).trans hc0,(hc 1).trans hc1,(hc 2).trans hc2⟩);have Vw:Ow wr.drew Bz (.slice (some ⟨Bz,0,none⟩) n n) o:=hown;generalize (xs.take e).drop a=P at *;clear hxp hyd hcut he hown hx hy hlp f8;go_wp2_with (fail);have aii:=hS0
         go_region_held3 (fun X=>B<X.heap.size∧X.cell? ⟨B,0,none⟩=some (.int .i64 40)∧X.cell? ⟨B,1,none⟩=some (.func (.func 170) #[] #[])∧X.cell? ⟨B,2,none⟩=some (.func (.func 152) #[] #[]))
          (first
           | exact hS0
           | assumption
           | exact keepW (by assumption) (by assumption)
           | exact acH (by assumption) (by assumption) (by assumption))
          (first
           | (go_at_call 156;((with_reducible refine hT.out.mono ?_);rintro e3 w3 ⟨hp,hB3⟩;obtain ⟨g3,c3,o3,rfl,ho3,hv3,hl3,hlen3⟩:=hp.open (p+ny) rfl;have aa1:=Vw.ext hB3;have hg3:=ho3.block.1;have acE:=Vw.block.2;have hV3:=ho3.KZ hl3 Bz (by omega)))
           | (go_at_call 159;((with_reducible refine (sM w3 Bz Bz n n a r r o o3 _ aa1 HO.out.lt (Nat.le_of_eq f16) (Nat.le_refl _) hn6 hV3 (by rw [hlen3];exact f15)).mono ?_);rintro e4 w4 ⟨⟨o6,cy6,rfl,zK,ho6⟩,hB4⟩;have ank:B≠Bz:=Nat.ne_of_lt hb0)))
         have hval:bI o+BB^a*bI o3=bI (xs.take e)*bI ys:=(by rw [HO.out.val,hv3,hHC.out,Nat.add_mul,Nat.mul_assoc]);have hv6:=zK.done f16 (by rw [hval];exact hprod.out);rw [hval] at hv6;have HST:Hid (TmI xs ys n (a+ny) o6):=⟨zK.len,zK.lt,by rw [hTE.out];exact hv6⟩;have nU:Ext W1 w4:=(hE.drew.below hB3).but hB4 (by rw [HBZ.out];exact Nat.le_refl _);clear hv6 zK hB4 hB3 hval hT hV3 aa1 ho3 hp hHC hTE hprod Vw HO hS0 aii;go_wp2;go_roundw;case rel=>exact ⟨a+ny,_,by omega,by go_num,HST,ho6,nU⟩
         case measure=>simp [intOf];omega
       · have hta:xs.take a=xs:=List.take_of_length_le (by rw [HL.out.1];omega);have HF:Hid (Prod w wr (.returned (.slice (some ⟨Bz,0,none⟩) n n)) nx ny xs ys):=(by refine ⟨Bz,n,o,by rw [hn],?_,by rw [HO.out.val,hta],HO.out.lt⟩;rw [hn];exact hown.qM (by rw [← HBZ.out];exact hE0.size));have Yy:=hE0.below hE;clear hown HO hE;go_wp2;go_ret;exact ⟨HF.out,Yy⟩
theorem Ox (N:Nat) (hN:N≤20000) (IH:BX N):BX (N+1):=by
 intro w q1 q2 va vb gm bs na nb ha hb hna hnb hsum;by_cases h:na<nb
 · refine (F5 N hN IH true w q2 q1 vb va bs gm nb na hb ha hnb hna (by omega) (fun _=>h) (by omega)).mono ?_;rintro e w' ⟨hp,hB⟩;exact ⟨hp.turn (Nat.add_comm _ _) (Nat.mul_comm _ _),hB⟩
 · exact F5 N hN IH false w q1 q2 va vb gm bs na nb ha hb hna hnb (by omega) (fun h=>by cases h) (by omega)
theorem tok:∀ N,N≤20001→BX N
 | 0,_=>fun w q1 q2 va vb gm bs na nb _ _ _ _ h=>by omega
 | N+1,h=>Ox N (by omega) (tok N (by omega))
theorem Zi (w:World) (q1 q2:Nat) (va vb:Value) (gm bs:List Nat) (na nb:Nat) (ha:V q1 w va gm) (hb:V q2 w vb bs) (hna:gm.length=na) (hnb:bs.length=nb) (h:na+nb≤20000) :Calls prog 156 #[Wh,va,vb] w fun e w'=>Prod w w' e na nb gm bs∧Ext w w':=tok 20001 (Nat.le_refl _) w q1 q2 va vb gm bs na nb ha hb hna hnb (by omega)
theorem F7 (w:World):A0k 155 #[] w Wh:=by have hE:=(Ext.refl w).alloc (.cells #[.int .i64 40,.func (.func 170) #[] #[],.func (.func 152) #[] #[]] 151);go_enter func155,ntmps155;go_wp2;refine bodyPost_ret (v:=Wh) ?_ rfl ⟨rfl,hE⟩;simp [results,Tryz.results155,go_sem, *]
theorem Ml (w:World) (va vb:Value) (xs ys:List Nat) (ha:U w va xs) (hb:U w vb ys) (hla:xs.length≤1000) (hlb:ys.length≤1000) :Calls prog 134 #[va,vb] w fun e w'=>(∃ u,e = .returned u∧Un w' u (val xs*val ys))∧Ext w w':=by
 obtain ⟨na,hna⟩:∃ na,(xs.length+1)/2=na:=⟨_,rfl⟩;obtain ⟨nb,hnb⟩:∃ nb,(ys.length+1)/2=nb:=⟨_,rfl⟩;have hHW:=Lib.hid (And.intro (qL xs) (qL ys));have hHP:=Lib.hid (And.intro (wy xs ha.lim) (wy ys hb.lim));have hHL:Hid ((kQ xs).length=na∧(kQ ys).length=nb):=⟨by rw [ni,hna],by rw [ni,hnb]⟩;have hPa:=Lib.hid (fun W h=>vw W va xs h (by omega) na hna);have hPb:=Lib.hid (fun W h=>vw W vb ys h (by omega) nb hnb);have aij:na≤501:=by omega
 have aik:nb≤501:=by omega
 have hE:=Ext.refl w;clear hna hnb;go_enter func134,ntmps134;go_wp2_with (fail);refine (F7 _).mono ?_;rintro e w1 ⟨rfl,hB⟩;replace hE:=hE.below hB;replace ha:=ha.below hB;replace hb:=hb.below hB;clear hB;go_wp2_with (fail);refine (hPa.out _ ha).mono ?_;rintro e w2 ⟨rfl,ho1,hB⟩;replace hE:=hE.below hB;replace hb:=hb.below hB;clear hB ha;go_wp2_with (fail);refine (hPb.out _ hb).mono ?_;rintro e w3 ⟨rfl,ho2,hB⟩;replace hE:=hE.below hB;replace ho1:=ho1.ext hB;clear hB hb;go_wp2_with (fail);refine (Zi w3 (w1.heap.size+1) (w2.heap.size+1) _ _ _ _ na nb (ho1.KZ hHP.out.1 _ (by omega)) (ho2.KZ hHP.out.2 _ (by omega)) hHL.out.1 hHL.out.2 (by omega)).mono ?_;rintro e w4 ⟨hp,hB⟩;obtain ⟨g,c,o,rfl,ho,hv,hl,hlen⟩:=hp.open (na+nb) rfl;replace hE:=hE.below hB;clear hB ho1 ho2 hp;go_wp2_with (fail);refine (Br w4 (g+1) _ o (ho.KZ hl _ (by omega)) (by omega)).mono ?_;rintro e w5 ⟨⟨u,rfl,hu⟩,hB⟩;rw [hv,hHW.out.1,hHW.out.2] at hu;replace hE:=hE.below hB;have HF:Hid (∃ u',Ending.returned u = .returned u'∧Un w5 u' (val xs*val ys)):=⟨_,rfl,hu⟩;clear hB ho hu hv hl hlen;go_wp2;go_ret;exact ⟨HF.out,hE⟩
theorem nS (w:World) (v:Value) (xs:List Nat) (h:U w v xs) :Calls prog 46 #[v] w fun e w'=>e = .returned (.bool (gX xs))∧w=w':=by
 obtain ⟨A,c,rfl,⟨hc,hm⟩,hx,hr⟩:=h;by_cases hlen:xs.length≤65536
 · rcases Nat.eq_zero_or_pos xs.length with h0 | h0
   · obtain rfl:=List.eq_nil_of_length_eq_zero h0;go_enter func46,ntmps46;go_wp2;go_ret;exact ⟨rfl,rfl⟩
   · obtain ⟨ad,rfl,hb,hcell⟩:=hr h0;have hc1:=hcell (xs.length-1) (by omega);have hne:(((xs.length:Nat):Int)==0)=false:=(by rw [beq_eq_false_iff_ne];omega);have hres:gX xs=(lb xs (xs.length-1) != 0):=(by unfold gX;have:xs.isEmpty=false:=(by cases xs<;>simp_all);simp [hlen,this]);have HR:=Lib.hid hres;clear hres;go_enter func46,ntmps46;go_wp2;go_ret;exact ⟨by rw [HR.out,← bne_cast];rfl,rfl⟩
 · have hres:gX xs=false:=(by unfold gX;simp [hlen]);have hne:(((xs.length:Nat):Int)==0)=false:=(by rw [beq_eq_false_iff_ne];omega);have HR:=Lib.hid hres;clear hres;go_enter func46,ntmps46;go_wp2;go_ret;exact ⟨by rw [HR.out];rfl,rfl⟩
theorem jH (w:World) (va vb:Value) (gm bs:List Nat) (na nb:Nat) (ha:U w va gm) (hb:U w vb bs) (hna:gm.length=na) (hnb:bs.length=nb) (hn1:na≤1000) (hn2:nb≤1000) :Calls prog 82 #[va,vb] w fun e w'=>(∃ u,e = .returned u∧Un w' u (val gm*val bs))∧Ext w w':=by
 obtain ⟨A,ca,rfl,⟨hca,hma⟩,hxl,UZ⟩:=id ha;obtain ⟨A2,cb,rfl,⟨hcb,hmb⟩,hyl,U0⟩:=id hb;have HL:Hid (gm.length=na∧bs.length=nb):=⟨hna,hnb⟩;have HTX:=Lib.hid (fun k=>jg bs k);have HTY:=Lib.hid (fun k=>jg gm k);have HT2:Hid (bs.take nb=bs∧gm.take na=gm):=⟨by rw [← hnb];exact List.take_length,by rw [← hna];exact List.take_length⟩;rw [hna] at hca hma UZ ⊢;rw [hnb] at hcb hmb U0 ⊢;obtain ⟨n,hnn⟩:∃ n,na+nb=n:=⟨_,rfl⟩;have hni:(na:Int)+(nb:Int)=(n:Int):=by omega
 obtain ⟨i0,hi,hz0,hz1,hz2⟩:=info_parts sS;obtain ⟨B,hB⟩:∃ B,w.heap.size=B:=⟨_,rfl⟩;have Hu:=Lib.hid hB;clear ha hb hna hnb;go_enter func82,ntmps82;go_wp2_with (at_make;refine wpList_make_full _ rfl _ _ 24 rfl w.heap.size 57 i0 (.int .u32 0) 1 underlying24 hi hz0 hz1 _ _ _ _ n rfl rfl (by omega) (by omega) (by rw [hz2];omega) (by unfold maxLen;omega) (Nat.le_refl _) ?_;intro w1 hown hgrow);have ho0:Own w1 w.heap.size (.slice (some ⟨w.heap.size,0,none⟩) n n) (List.replicate n 0):=by have:=Own.zeros hown;rwa [List.length_replicate] at this
 have hE0:Ext w w1:=(Ext.refl w).grown hgrow (Nat.le_refl _) (fun _ h=>by cases h);rw [hB] at ho0;clear hown hgrow hi hz0 hz1 hz2 i0;have hS0:Hid (TH bs gm n 0 (List.replicate n 0)):=⟨by simp,fun x hx=>by simp at hx;omega,by simp [gF,val],fun m _=>jL _ _⟩;go_wp2;go_loopw [6] (fun t wr=>∃ (i:Nat) (o:List Nat),i≤na∧t = .int .i64 (i:Nat)∧Hid (TH bs gm n i o)∧Own wr B (.slice (some ⟨B,0,none⟩) n n) o∧Ext w wr) (fun t _=>na-(intOf t).toNat);case atStart=>exact ⟨0,_,Nat.zero_le _,rfl,hS0,ho0,hE0⟩
 case round =>
  clear hS0 ho0 hE0;obtain ⟨i,o,hib,rfl,HO,hown,hE⟩:=hrel;by_cases hlt:i<na
  · obtain ⟨ad,rfl,hb1,hcell1⟩:=UZ (by omega);have hyb:=fD hxl i;have hty:=HTY.out i (by rw [HL.out.1];exact hlt);obtain ⟨y,Db⟩:∃ y,lb gm i=y:=⟨_,rfl⟩;rw [Db] at hyb hty;have HY:=Lib.hid Db;have U2:Hid (U4 o n i (val o+LB^i*(val (bs.take 0)*y)) 0 o 0):=⟨HO.out.len,HO.out.lt,by decide,by simp [val],fun m _=>rfl⟩;have E8:Hid (val (gm.take (i+1))=val (gm.take i)+LB^i*y):=hty;have hno:Hid (lb o (i+nb)=0):=HO.out.out _ (by rw [HL.out.2];exact Nat.le_refl _);clear Db hty;go_wp2;go_loopw [8,7] (fun t s wx=>∃ (j:Nat) (o2:List Nat) (cy:Nat),j≤nb∧t = .int .i64 (j:Nat)∧s = .int .u64 (cy:Nat)∧Hid (U4 o n i (val o+LB^i*(val (bs.take j)*y)) j o2 cy)∧Own wx B (.slice (some ⟨B,0,none⟩) n n) o2∧Ext w wx) (fun t _ _=>nb-(intOf t).toNat);case atStart=>exact ⟨0,o,0,Nat.zero_le _,rfl,rfl,U2,hown,hE⟩
    case round =>
     clear U2 hown hE;obtain ⟨j,o2,cy,hj,rfl,rfl,HW,hown,hE⟩:=hrel;by_cases hjt:j<nb
     · obtain ⟨LW,rfl,hb2,hcell2⟩:=U0 (by omega);have hc0:=(hE.cell (p:=ad.add i) (by rw [aW];exact hb1)).trans (hcell1 i hlt);rw [HY.out] at hc0;have hc1:=(hE.cell (p:=LW.add j) (by rw [aW];exact hb2)).trans (hcell2 j hjt);have hxb:=fD hyl j;have htk:=HTX.out j (by rw [HL.out.2];exact hjt);have hcz:=hown.rd.2 (i+j) (by rw [HW.out.len];omega);have hf:=hown.frozen' (i+j);have hzb:=fD HW.out.lt (i+j);have hcy:=HW.out.Ec;obtain ⟨x,zU⟩:∃ x,lb bs j=x:=⟨_,rfl⟩;rw [zU] at hc1 hxb htk;obtain ⟨z,hzz⟩:∃ z,lb o2 (i+j)=z:=⟨_,rfl⟩;rw [hzz] at hcz hzb;obtain ⟨t,ht⟩:∃ t,x*y=t:=⟨_,rfl⟩;have ht1:t≤18446744065119617025:=(by rw [← ht];exact Qi hxb hyb);have hti:(y:Int)*(x:Int)=(t:Int):=(by rw [← ht,Int.natCast_mul,Int.mul_comm]);obtain ⟨u,hu⟩:∃ u,cy+(t+z)=u:=⟨_,rfl⟩;obtain ⟨s,hs⟩:∃ s,u%4294967296=s:=⟨_,rfl⟩;obtain ⟨d,hd⟩:∃ d,u/4294967296=d:=⟨_,rfl⟩;obtain ⟨hm,hsb,hdb,hub,htz⟩:=yj t z cy s d u ht1 hzb hcy hu hs hd;have hst:=HW.out.step (by omega) t s d (by rw [hzz];exact hm) hsb hdb;rw [Nat.add_assoc (val o),Nat.pow_add,Nat.mul_assoc,← Nat.mul_add,← ht,← Nat.mul_assoc,← Nat.add_mul,← htk] at hst;have HST:=Lib.hid hst;have hown2:=hown.set' (i+j) s;have hE2:=hE.setCell (p:=⟨B,i+j,none⟩) (by rw [Hu.out];exact Nat.le_refl _) (.int .u32 (s:Nat));have q1:IntKind.u64.wrap (t:Int)=(t:Int):=(by rw [IntKind.wrap_u64];omega);have q2:IntKind.u64.wrap ((t:Int)+(z:Int))=(t:Int)+(z:Int):=(by rw [IntKind.wrap_u64];omega);have q3:(t:Int)+(z:Int)+(cy:Int)=(u:Int):=(by omega);have q4:IntKind.u64.wrap (u:Int)=(u:Int):=(by rw [IntKind.wrap_u64];omega);have q5:IntKind.u32.wrap (u:Int)=(s:Int):=(by rw [IntKind.wrap_u32];omega);have q6:(u:Int)%4294967296=(s:Int):=(by omega);have q7:(u:Int)/4294967296=(d:Int):=(by omega);have q8:IntKind.u64.wrap (x:Int)=(x:Int):=(by rw [IntKind.wrap_u64];omega);have q9:IntKind.u64.wrap (y:Int)=(y:Int):=(by rw [IntKind.wrap_u64];omega);have q10:IntKind.u64.wrap (z:Int)=(z:Int):=(by rw [IntKind.wrap_u64];omega);have q11:(u:Int)%18446744073709551616=(u:Int):=(by omega);have q12:(t:Int)%18446744073709551616=(t:Int):=(by omega);have q13:((t:Int)+(z:Int))%18446744073709551616=(t:Int)+(z:Int):=(by omega);have q14:IntKind.i64.wrap ((i:Int)+(j:Int))=(i:Int)+(j:Int):=IntWalk.i64_in _ (by omega);have q15:(0:Int)≤(i:Int)+(j:Int):=(by omega);have q16:(i:Int)+(j:Int)<(n:Int):=(by omega);have q17:((i:Int)+(j:Int)).toNat=i+j:=(by omega);have q18:(0:Int)≤(i:Int):=(by omega);have q19:(i:Int)<(na:Int):=(by omega);have q20:(0:Int)≤(j:Int):=(by omega);have q21:(j:Int)<(nb:Int):=(by omega);clear hst htk zU hzz ht hu hs hd hm HW hxb hzb ht1 hcy hown2 hE2;have HOWN:=Lib.hid hown;have HEE:=Lib.hid hE;clear hown hE;go_wp2_with (fail);go_quiet (fail);have hown2:=(HOWN.out.ext (kI wr nq)).set' (i+j) s;have hE2:=(HEE.out.below (kI wr nq)).setCell (p:=⟨B,i+j,none⟩) (by rw [Hu.out];exact Nat.le_refl _) (.int .u32 (s:Nat));go_wp2;go_roundw;case rel=>exact ⟨j+1,_,d,by omega,by go_num,rfl,HST,hown2,hE2⟩
       case measure=>simp [intOf];omega
     · obtain rfl:j=nb:=(by omega);have hcz:=hown.rd.2 (i+j) (by rw [HW.out.len];omega);have hf:=hown.frozen' (i+j);have hl0:lb o2 (i+j)=0:=(by rw [HW.out.out _ (Nat.le_refl _)];exact hno.out);have hws:=wN o2 (i+j) cy (by rw [HW.out.len];omega);rw [hl0,Nat.mul_zero,Nat.add_zero,HW.out.val,HT2.out.1] at hws;have Ao:(Value.int .u32 (lb o2 (i+j):Nat)) = .int .u32 0:=(by rw [hl0];rfl);rw [Ao] at hcz;have E9:=HW.out.Ec;have q5:IntKind.u32.wrap (cy:Int)=(cy:Int):=(by rw [IntKind.wrap_u32];omega);have q6:(cy:Int)%4294967296=(cy:Int):=(by omega);have hown2:=hown.set' (i+j) cy;have hE2:=hE.setCell (p:=⟨B,i+j,none⟩) (by rw [Hu.out];exact Nat.le_refl _) (.int .u32 (cy:Nat))
       have HST:Hid (TH bs gm n (i+1) (o2.set (i+j) cy)):=by
        refine ⟨by rw [List.length_set];exact HW.out.len,ko HW.out.lt E9,?_,fun m hm=>?_⟩
        · rw [hws,E8.out,Nat.mul_add,← HO.out.val,Nat.mul_left_comm]
        · rw [HL.out.2] at hm;rw [fH _ (by omega),HW.out.out _ (by omega)];exact HO.out.out m (by rw [HL.out.2];omega)
       have g12:(i:Int)+(j:Int)<(n:Int):=(by omega);have g13:i+j<n:=(by omega);clear hl0 hws Ao hown hE HW E9 E8 hno;go_wp2;go_roundw;case rel=>exact ⟨i+1,_,by omega,by go_num,HST,hown2,hE2⟩
       case measure=>simp [intOf];omega
  · obtain rfl:i=na:=(by omega);have hu:=hown.Ht HO.out.lt (by rw [HO.out.len];omega);have hvv:=HO.out.val;rw [HT2.out.2,Nat.mul_comm] at hvv;have HV:=Lib.hid hvv;have hol:=HO.out.len;clear hown HO hvv;go_wp2_with (fail);refine (iQ _ _ _ hu (by omega)).mono ?_;rintro e w2 ⟨⟨u,rfl,hu2⟩,hB2⟩;rw [HV.out] at hu2;have hE2:=hE.below hB2;have HF:Hid (∃ u',Ending.returned u = .returned u'∧Un w2 u' (val gm*val bs)):=⟨_,rfl,hu2⟩;clear hu2 hu hB2;go_wp2;go_ret;exact ⟨HF.out,hE2⟩
theorem rC (w:World) (va vb:Value) (n m k:Nat) (ha:Un w va n) (hb:Un w vb m) (hn:(limbs n).length≤398) (hm:(limbs m).length≤398) (hk:n*m=k) :A0l 82 #[va,vb] w k:=by refine (jH w va vb _ _ _ _ ha hb rfl rfl (by omega) (by omega)).mono ?_;rw [aM,aM,hk];rintro e w' ⟨⟨u,h1,h2⟩,h3⟩;exact ⟨u,h1,h2,h3⟩
theorem jO (w:World) (v:Value) (xs:List Nat) (h:U w v xs) (b:Bool) (hb:gX xs=b) :Calls prog 46 #[v] w fun e w'=>e = .returned (.bool b)∧Ext w w' :=
 (nS w v xs h).mono fun e w' ⟨he,hw⟩=>⟨by rw [he,hb],by rw [← hw];exact Ext.refl w⟩
theorem mK (w:World) (va vb:Value) (n m k:Nat) (ha:Un w va n) (hb:Un w vb m) (hn:(limbs n).length≤398) (hm:(limbs m).length≤398) (hk:n*m=k) :A0l 35 #[va,vb] w k:=by have h0:=Lib.hid (rC w va vb n m k ha hb hn hm hk);clear ha hb hn hm hk;go_enter func35,ntmps35;go_wp2_with (fail);refine h0.out.mono ?_;rintro e w1 ⟨u,rfl,hu,hB⟩;have HF:Hid (∃ u',Ending.returned u = .returned u'∧Un w1 u' k∧Ext w w1):=⟨_,rfl,hu,hB⟩;clear hu hB h0;go_wp2;go_ret;exact HF.out
theorem Sz.lit {z:Int} {K:Nat} (h:z.natAbs<4294967296) (hk:1≤K):Sz z K:=Nat.le_trans (lQ (k:=1) (by rw [Nat.pow_one];exact h)) hk
theorem Sz.cut {w:World} {v:Value} {xs:List Nat} (u:U w v xs) (b:Bool) (k K:Nat) (hk:k≤K):Sz (sg b (eF xs k)) K:=by show (limbs (sg b (eF xs k)).natAbs).length≤K;rw [sW];exact Nat.le_trans (wM xs k u.lim) hk
namespace Dy
def cl (v:Rat):Int := -(-v).floor
def rnd (d:Nat) (v:Rat):Int :=
 if d=0 then v.floor else if d=1 then cl v
 else if d=2 then (if v<0 then cl v else v.floor)
 else if d=3 then (if v<0 then v.floor else cl v)
 else if v-v.floor<1/2 then v.floor else if 1/2<v-v.floor then cl v
 else if v.floor%2=0 then v.floor else cl v
def cut (d:Nat) (v:Rat) (n:Int):Rat:=dv (rnd d (v*2^n)) (-n)
end Dy
namespace Rq
theorem wO {a b:Rat}:a<b↔a.num*b.den<b.num*a.den:=Rat.lt_iff a b
theorem cmp_eq {a b:Rat}:a=b↔a.num*b.den=b.num*a.den:=Rat.eq_iff_mul_eq_mul
theorem Fa (a b:Rat):Rat.divInt (a.num*b.den+b.num*a.den) ((a.den*b.den:Nat):Int)=a+b:=by rw [Rat.divInt_ofNat,Rat.add_def']
theorem Fb (a b:Rat):Rat.divInt (a.num*b.num) ((a.den*b.den:Nat):Int)=a*b:=by rw [Rat.divInt_ofNat,Rat.mul_def']
theorem pM (a:Rat):a.floor=a.num/a.den:=by
 unfold Rat.floor;split
 · rename_i h;rw [h];simp
 · rfl
theorem sign_neg {a:Rat}:a<0↔a.num<0:=by rw [Rat.lt_iff];show a.num*1<0*_↔_;omega
theorem sign_zero {a:Rat}:a=0↔a.num=0:=Rat.num_eq_zero.symm
end Rq
namespace Rf
open Go Go.RowKit Pl
def IR (p:Int→Prop):RS:=⟨fun w f=>∃ z,f 0 = .int .i64 z∧p z,fun h _ _=>h⟩
section
variable {P:Program} {f:FuncId} {args:Array Value} {w:World} {α:Env} {γ:l7}
theorem LX {p:Int→Prop} (g:Nat) (h:Calls P f args w (fun e w'=>∃ k,e = .returned (.int .i64 k)∧p k∧aS w w')) :Calls P f args w (fun e w'=>∃ F,(∀ k,bU (F k)=true)∧e = .returned (den α (upd γ g F) (.c g 0))∧(IR p).R w' F∧aS w w'):=Calls.mono h fun e w' ⟨k,he,hp,hE⟩=>by subst he;refine ⟨tK [.int .i64 k],fA rfl,?_,⟨k,rfl,hp⟩,hE⟩;simp only [den,dU,upd_same];rfl
end
end Rf
theorem pO (b:Bool) (n m:Nat):sg b (n+m)=sg b n+sg b m:=by cases b<;>simp [sg]<;>omega
theorem nT (b:Bool) (n m:Nat):(if m≤n then sg b (n-m) else sg (!b) (m-n))=sg b n+sg (!b) m:=by cases b<;>simp only [sg,Bool.not_false,Bool.not_true,if_true,if_false,Bool.false_eq_true]<;>split<;>omega
theorem Fe (w:World) (v:Value) (z:Int) (h:Zn w v z) (hl:(limbs z.natAbs).length≤1000000) (k:Int) (hk:Int.sign z=k) :A0k 80 #[v] w (.int .i64 k):=by
 have hk2:dA z 0=k:=by unfold dA;grind
 have h':=h;obtain ⟨p,A,L,c,rfl⟩:=h.sh;have hE0:=(Ext.refl w).alloc (.cells #[.bool p,.slice A L c] 34);have hC:=Lib.hid (Ff _ _ _ z 0 (h'.below hE0) (Zn.zero _ none 0) hl (by rw [show Int.natAbs 0=0 from rfl,bF];decide) k hk2);go_enter func80,ntmps80;go_wp2_with (go_at_call 78;refine hC.out.mono ?_;rintro e w2 ⟨rfl,hE2⟩);go_ret;exact ⟨rfl,hE0.below hE2⟩
theorem rD (w:World) (p:Bool) (A B:Option Addr) (L K c d n m:Nat) (hu:Un w (.slice A L c) n) (hv:Un w (.slice B K d) m) (hl:(limbs n).length≤1000000) (hl2:(limbs m).length≤1000000) (y:Int) (hy:sg p (n+m)=y) :A0m 108 #[.agg #[.bool p,.slice A L c],.agg #[.bool p,.slice B K d]] w y:=by
 have hE0:=((((Ext.refl w).alloc (.cells #[.bool p,.slice A L c] 34)).alloc (.cells #[.bool p,.slice B K d] 34)).alloc (.cells #[.bool false,.slice none 0 0] 34)).drew;have hI0:=(Ib.wP w (.cells #[.bool p,.slice A L c] 34) (.cells #[.bool p,.slice B K d] 34) false (.slice none 0 0) 34).ext (Ext.refl _).drew;have ou:=(Ib.new w p (.slice A L c) 34).ext ((((Ext.refl _).alloc (.cells #[.bool p,.slice B K d] 34)).alloc (.cells #[.bool false,.slice none 0 0] 34)).drew);have nL:=(Ib.new2 w (.cells #[.bool p,.slice A L c] 34) p (.slice B K d) 34).ext (((Ext.refl _).alloc (.cells #[.bool false,.slice none 0 0] 34)).drew);have hS0:(w.heap.size+1+1<(((w.alloc (.cells #[.bool p,.slice A L c] 34)).alloc (.cells #[.bool p,.slice B K d] 34)).alloc (.cells #[.bool false,.slice none 0 0] 34)).drew.heap.size∧(((w.alloc (.cells #[.bool p,.slice A L c] 34)).alloc (.cells #[.bool p,.slice B K d] 34)).alloc (.cells #[.bool false,.slice none 0 0] 34)).drew.cell? ⟨w.heap.size,0,none⟩=some (.bool p)∧(((w.alloc (.cells #[.bool p,.slice A L c] 34)).alloc (.cells #[.bool p,.slice B K d] 34)).alloc (.cells #[.bool false,.slice none 0 0] 34)).drew.cell? ⟨w.heap.size,1,none⟩=some (.slice A L c)∧(((w.alloc (.cells #[.bool p,.slice A L c] 34)).alloc (.cells #[.bool p,.slice B K d] 34)).alloc (.cells #[.bool false,.slice none 0 0] 34)).drew.cell? ⟨w.heap.size+1,0,none⟩=some (.bool p)∧(((w.alloc (.cells #[.bool p,.slice A L c] 34)).alloc (.cells #[.bool p,.slice B K d] 34)).alloc (.cells #[.bool false,.slice none 0 0] 34)).drew.cell? ⟨w.heap.size+1,1,none⟩=some (.slice B K d))∧Ext w (((w.alloc (.cells #[.bool p,.slice A L c] 34)).alloc (.cells #[.bool p,.slice B K d] 34)).alloc (.cells #[.bool false,.slice none 0 0] 34)).drew:=⟨⟨by simp,ou.2.1,ou.2.2.1,nL.2.1,nL.2.2.1⟩,hE0⟩;have hu0:=hu.below hE0;have hv0:=hv.below hE0;have hsl:(limbs (n+m)).length≤1000000000:=by have h1:=dS hl;have h2:=dS hl2;refine Nat.le_trans (lQ (k:=1000000+1) ?_) (by omega);obtain ⟨E,hE⟩:∃ E,1000000=E:=⟨_,rfl⟩;rw [hE] at h1 h2 ⊢;rw [Nat.pow_succ];have:LB^E*2≤LB^E*LB:=Nat.mul_le_mul_left _ (by unfold LB;decide);unfold LB at *;omega
 have hA:=Lib.hid (fun W h g=>sZ W (.slice A L c) (.slice B K d) n m h g (by omega) (by omega) _ rfl);have hM:=Lib.hid (fun W v (h:Un W v (n+m))=>fP W p v (limbs (n+m)) h hsl _ (aM _) y hy);clear hl hl2 hu hv hy ou nL hsl
 all_goals (
  go_enter func108,ntmps108;go_wp2
  go_region_held3 (fun X=>(w.heap.size+1+1<X.heap.size∧X.cell? ⟨w.heap.size,0,none⟩=some (.bool p)∧X.cell? ⟨w.heap.size,1,none⟩=some (.slice A L c)∧X.cell? ⟨w.heap.size+1,0,none⟩=some (.bool p)∧X.cell? ⟨w.heap.size+1,1,none⟩=some (.slice B K d))∧Ext w X)
   (first
    | assumption
    | exact hS0
    | exact zg (by assumption) (by assumption)
    | exact zh (by assumption))
   (first
    | (go_at_call 77;((with_reducible refine (hA.out _ hu0 hv0).mono ?_);rintro e w2 ⟨u,rfl,hu2,hE2⟩;obtain ⟨A2,c2,rfl,-⟩:=Un.sh hu2))
    | (go_at_call 55;((with_reducible refine (hM.out _ _ hu2).mono ?_);rintro e w3 ⟨u,rfl,hz3,fV⟩;obtain ⟨b3,A3,L3,c3,rfl⟩:=hz3.sh;have nJ:=(hI0.ext hE2).ext fV;obtain ⟨i0,i1,i2,i3,i4⟩:=id nJ)))
  clear nJ hA hM;go_wp2
  (try simp only [Exit.inBlock,Exit.then])
  refine bodyPost_ret (v:=.agg #[.bool b3,.slice A3 L3 c3]) (show (results _ _).run _ _=_ from ?_) rfl ⟨_,rfl,hz3.gB ((hI0.ext hE2).ext fV) (bD _ _ _) _ _,((hE0.below hE2).below fV).gB (by omega) _ _⟩;simp only [results];go_simp)
theorem pQ (w:World) (p:Bool) (A B:Option Addr) (L K c d n m:Nat) (hu:Un w (.slice A L c) n) (hv:Un w (.slice B K d) m) (hl:(limbs n).length≤1000000) (hl2:(limbs m).length≤1000000) (y:Int) (hy:(if m≤n then sg p (n-m) else sg (!p) (m-n))=y) :A0m 108 #[.agg #[.bool p,.slice A L c],.agg #[.bool (!p),.slice B K d]] w y:=by
 have hE0:=(((Ext.refl w).alloc (.cells #[.bool p,.slice A L c] 34)).alloc (.cells #[.bool (!p),.slice B K d] 34)).alloc (.cells #[.bool false,.slice none 0 0] 34);have hI0:=Ib.wP w (.cells #[.bool p,.slice A L c] 34) (.cells #[.bool (!p),.slice B K d] 34) false (.slice none 0 0) 34;have ou:=(Ib.new w p (.slice A L c) 34).ext (((Ext.refl _).alloc (.cells #[.bool (!p),.slice B K d] 34)).alloc (.cells #[.bool false,.slice none 0 0] 34));have nL:=(Ib.new2 w (.cells #[.bool p,.slice A L c] 34) (!p) (.slice B K d) 34).ext ((Ext.refl _).alloc (.cells #[.bool false,.slice none 0 0] 34));have hu0:=hu.below hE0;have hv0:=hv.below hE0;obtain ⟨d1,hd1⟩:∃ d,n-m=d:=⟨_,rfl⟩;obtain ⟨d2,hd2⟩:∃ d,m-n=d:=⟨_,rfl⟩;have hl3:(limbs d1).length≤1000000000:=by have:=iK (show d1≤n by omega);omega
 have hl4:(limbs d2).length≤1000000000:=by have:=iK (show d2≤m by omega);omega
 rw [hd1,hd2] at hy;by_cases h0:m≤n
 · rw [if_pos h0] at hy;have hA:=Lib.hid (fun W h g=>oH W (.slice A L c) (.slice B K d) n m h g (by omega) (by omega) true (decide_eq_true h0) d1 hd1);have hM:=Lib.hid (fun W v (h:Un W v d1)=>fP W p v (limbs d1) h hl3 _ (aM _) y hy);clear hl hl2 hu hv hy hl3 hl4 hd1 hd2 h0;cases p
   all_goals (
    go_enter func108,ntmps108
    go_wp2_with (first
     | (go_at_call 85;refine (hA.out _ hu0 hv0).mono ?_;rintro e w2 ⟨u,rfl,hu2,hE2⟩;obtain ⟨A2,c2,rfl,-⟩:=Un.sh hu2;obtain ⟨p0,p1,p2,p3,p4⟩:=ou.ext hE2;obtain ⟨q0,q1,q2,q3,q4⟩:=nL.ext hE2)
     | (go_at_call 55;refine (hM.out _ _ hu2).mono ?_;rintro e w3 ⟨u,rfl,hz3,fV⟩;obtain ⟨b3,A3,L3,c3,rfl⟩:=hz3.sh;have nJ:=(hI0.ext hE2).ext fV;obtain ⟨i0,i1,i2,i3,i4⟩:=id nJ))
    (try simp only [Exit.inBlock,Exit.then])
    refine bodyPost_ret (v:=.agg #[.bool b3,.slice A3 L3 c3]) (show (results _ _).run _ _=_ from ?_) rfl ⟨_,rfl,hz3.gB ((hI0.ext hE2).ext fV) (bD _ _ _) _ _,((hE0.below hE2).below fV).gB (by omega) _ _⟩;simp only [results];go_simp)
 · rw [if_neg h0] at hy;have hA:=Lib.hid (fun W h g=>oH W (.slice A L c) (.slice B K d) n m h g (by omega) (by omega) false (decide_eq_false h0) d1 hd1);have hA2:=Lib.hid (fun W h g=>oH W (.slice B K d) (.slice A L c) m n h g (by omega) (by omega) _ rfl d2 hd2);have hM:=Lib.hid (fun W v (h:Un W v d2)=>fP W (!p) v (limbs d2) h hl4 _ (aM _) y hy);clear hl hl2 hu hv hy hl3 hl4 hd1 hd2 h0;cases p
   all_goals (
    go_enter func108,ntmps108;go_upto_region 6 with (go_at_call 85;refine (hA.out _ hu0 hv0).mono ?_;rintro e w2 ⟨u,rfl,hu2,hE2⟩;obtain ⟨A2,c2,rfl,-⟩:=Un.sh hu2;obtain ⟨p0,p1,p2,p3,p4⟩:=ou.ext hE2;obtain ⟨q0,q1,q2,q3,q4⟩:=nL.ext hE2)
    go_wp2_with (first
     | (go_at_call 85;refine (hA2.out _ (Un.below hv0 hE2) (Un.below hu0 hE2)).mono ?_;rintro e w4 ⟨u,rfl,LY,jI⟩;obtain ⟨A4,c4,rfl,-⟩:=Un.sh LY;obtain ⟨p0,p1,p2,p3,p4⟩:=(ou.ext hE2).ext jI;obtain ⟨q0,q1,q2,q3,q4⟩:=(nL.ext hE2).ext jI)
     | (go_at_call 55;refine (hM.out _ _ LY).mono ?_;rintro e w3 ⟨u,rfl,hz3,fV⟩;obtain ⟨b3,A3,L3,c3,rfl⟩:=hz3.sh;have nJ:=((hI0.ext hE2).ext jI).ext fV;obtain ⟨i0,i1,i2,i3,i4⟩:=id nJ))
    (try simp only [Exit.inBlock,Exit.then])
    refine bodyPost_ret (v:=.agg #[.bool b3,.slice A3 L3 c3]) (show (results _ _).run _ _=_ from ?_) rfl ⟨_,rfl,hz3.gB (((hI0.ext hE2).ext jI).ext fV) (bD _ _ _) _ _,(((hE0.below hE2).below jI).below fV).gB (by omega) _ _⟩;simp only [results];go_simp)
theorem LZ (w:World) (va vb:Value) (a b:Int) (ha:Zn w va a) (hb:Zn w vb b) (hl:(limbs a.natAbs).length≤1000000) (hl2:(limbs b.natAbs).length≤1000000) (y:Int) (hy:a+b=y) :A0m 108 #[va,vb] w y:=by
 obtain ⟨p,A,L,c,n,rfl,hu,hL,hz,-,hza,hzn⟩:=ha.open;obtain ⟨q,B,K,d,m,rfl,hv,hK,hz2,-,lH,pR⟩:=hb.open;rw [hza] at hl;rw [lH] at hl2;rw [hz,hz2] at hy;by_cases h:q=p
 · subst h;exact rD w q A B L K c d n m hu hv hl hl2 y ((pO _ _ _).trans hy)
 · obtain rfl:q = !p:=(by cases p<;>cases q<;>first | rfl | exact absurd rfl h);exact pQ w p A B L K c d n m hu hv hl hl2 y ((nT _ _ _).trans hy)
theorem jZ (w:World) (va vb:Value) (a b:Int) (ha:Zn w va a) (hb:Zn w vb b) (hl:(limbs a.natAbs).length≤398) (hl2:(limbs b.natAbs).length≤398) (y:Int) (hy:a*b=y) :A0m 79 #[va,vb] w y:=by
 obtain ⟨p,A,L,c,n,rfl,hu,hL,hz,-,hza,hzn⟩:=ha.open;obtain ⟨q,B,K,d,m,rfl,hv,hK,hz2,-,lH,pR⟩:=hb.open;rw [hza] at hl;rw [lH] at hl2;obtain ⟨k,hk⟩:∃ k,n*m=k:=⟨_,rfl⟩;have hM:=Lib.hid (fun W h g=>mK W (.slice A L c) (.slice B K d) n m k h g hl hl2 hk);have hkl:(limbs k).length≤1000000000:=by have:=uZ n m;rw [hk] at this;omega
 have U5:=Lib.hid (fun W v (h:Un W v k)=>fP W (!(p==q)) v (limbs k) h hkl k (aM _) y (by rw [← hk,JG,← hz,← hz2];exact hy));have hE0:=((((Ext.refl w).alloc (.cells #[.bool p,.slice A L c] 34)).alloc (.cells #[.bool q,.slice B K d] 34)).alloc (.cells #[.bool false,.slice none 0 0] 34)).drew;have hI0:=(Ib.wP w (.cells #[.bool p,.slice A L c] 34) (.cells #[.bool q,.slice B K d] 34) false (.slice none 0 0) 34).ext (Ext.refl _).drew;have ou:=(Ib.new w p (.slice A L c) 34).ext ((((Ext.refl _).alloc (.cells #[.bool q,.slice B K d] 34)).alloc (.cells #[.bool false,.slice none 0 0] 34)).drew);have nL:=(Ib.new2 w (.cells #[.bool p,.slice A L c] 34) q (.slice B K d) 34).ext (((Ext.refl _).alloc (.cells #[.bool false,.slice none 0 0] 34)).drew);have hu0:=hu.below hE0;have hv0:=hv.below hE0;obtain ⟨p0,p1,p2,p3,p4⟩:=id ou;obtain ⟨q0,q1,q2,q3,q4⟩:=id nL;clear hl hl2 hza hzn lH pR hz hz2 hL hK ha hb hy hk;go_enter func79,ntmps79;have hS0:(w.heap.size+1+1<(((w.alloc (.cells #[.bool p,.slice A L c] 34)).alloc (.cells #[.bool q,.slice B K d] 34)).alloc (.cells #[.bool false,.slice none 0 0] 34)).drew.heap.size∧(((w.alloc (.cells #[.bool p,.slice A L c] 34)).alloc (.cells #[.bool q,.slice B K d] 34)).alloc (.cells #[.bool false,.slice none 0 0] 34)).drew.cell? ⟨w.heap.size,0,none⟩=some (.bool p)∧(((w.alloc (.cells #[.bool p,.slice A L c] 34)).alloc (.cells #[.bool q,.slice B K d] 34)).alloc (.cells #[.bool false,.slice none 0 0] 34)).drew.cell? ⟨w.heap.size,1,none⟩=some (.slice A L c)∧(((w.alloc (.cells #[.bool p,.slice A L c] 34)).alloc (.cells #[.bool q,.slice B K d] 34)).alloc (.cells #[.bool false,.slice none 0 0] 34)).drew.cell? ⟨w.heap.size+1,0,none⟩=some (.bool q)∧(((w.alloc (.cells #[.bool p,.slice A L c] 34)).alloc (.cells #[.bool q,.slice B K d] 34)).alloc (.cells #[.bool false,.slice none 0 0] 34)).drew.cell? ⟨w.heap.size+1,1,none⟩=some (.slice B K d))∧Ext w (((w.alloc (.cells #[.bool p,.slice A L c] 34)).alloc (.cells #[.bool q,.slice B K d] 34)).alloc (.cells #[.bool false,.slice none 0 0] 34)).drew:=⟨⟨by simp,p1,p2,q1,q2⟩,hE0⟩;clear p0 p1 p2 p3 p4 q0 q1 q2 q3 q4;go_wp2
 go_region_held3 (fun X=>(w.heap.size+1+1<X.heap.size∧X.cell? ⟨w.heap.size,0,none⟩=some (.bool p)∧X.cell? ⟨w.heap.size,1,none⟩=some (.slice A L c)∧X.cell? ⟨w.heap.size+1,0,none⟩=some (.bool q)∧X.cell? ⟨w.heap.size+1,1,none⟩=some (.slice B K d))∧Ext w X)
  (first
   | exact hS0
   | exact zg (by assumption) (by assumption)
   | exact zh (by assumption))
  (first
   | (go_at_call 35;((with_reducible refine (hM.out _ hu0 hv0).mono ?_);rintro e w2 ⟨u,rfl,hu2,hE2⟩;obtain ⟨A2,c2,rfl,hc2⟩:=Un.sh hu2))
   | (go_at_call 55;((with_reducible refine (U5.out _ _ hu2).mono ?_);rintro e w3 ⟨u,rfl,hz3,fV⟩;obtain ⟨b3,A3,L3,c3,rfl⟩:=hz3.sh;have nJ:=(hI0.ext hE2).ext fV;obtain ⟨i0,i1,i2,i3,i4⟩:=id nJ)))
 clear nJ hM U5;go_wp2
 (try simp only [Exit.inBlock,Exit.then])
 refine bodyPost_ret (v:=.agg #[.bool b3,.slice A3 L3 c3]) (show (results _ _).run _ _=_ from ?_) rfl ⟨_,rfl,hz3.gB ((hI0.ext hE2).ext fV) (bD _ _ _) _ _,((hE0.below hE2).below fV).gB (by omega) _ _⟩;simp only [results];go_simp
theorem Fg {z k:Int} (h:Int.sign z=k) : -1≤k∧k≤1∧(k=0→z=0)∧(z=0→k=0)∧(0<k→0<z)∧(0<z→0<k)∧(k<0→z<0)∧(z<0→k<0):=by
 subst h;rcases Int.lt_trichotomy z 0 with h | rfl | h
 · rw [Int.sign_eq_neg_one_of_neg h];omega
 · simp
 · rw [Int.sign_eq_one_of_pos h];omega
theorem Fh {a b k:Int} (h:dA a b=k) : -1≤k∧k≤1∧(k=0→a=b)∧(a=b→k=0)∧(0<k→b<a)∧(b<a→0<k)∧(k<0→a<b)∧(a<b→k<0):=by
 subst h;rcases Int.lt_trichotomy a b with h | rfl | h
 · rw [lU h];omega
 · rw [qD];omega
 · rw [mF h];omega
def U6 (x:Rat) (k:Int):Prop := -1≤k∧k≤1∧(k<0↔x<0)∧(k=0↔x=0)∧(0<k↔0<x)
namespace Rf
open Go Go.RowKit Pl
section
variable {P:Program} {Q:Exit→Act→World→Prop} {n:Nat} {ds:List Deferred} {w0:World} {cs:List Code} {l:Fr} {B:Bx} {Γ:Gm} {L:List Oper}
theorem IK {r:qE} {i m d:Nat} {o:Oper} {x:Operand} {s t:TypeId} {kd kd':IntKind} {a:Int} (c:Int) (hu:P.underlying t=some (.int kd')) (hs:(P.underlying s).isSome=true) (h1:kd'.wrap a=c) (ho:nth L i=some o) (hop:o.op = .convert s t x) (hd:o.dst=some d) (hg:lJ L l o.guard=some true) (hx:ev l x=some (.v (.int kd a))) (h:HA P Q n ds w0 cs L r ((d,.v (.int kd' c))::l) B Γ):HA P Q n ds w0 cs L ((false,i,m)::r) l B Γ:=fun α γ w hH=>LP hu hs h1 trivial ho hop hd (jc hg α γ) (dJ hx) (h α γ w hH)
end
section
variable {P:Program} {T:TypeId} {x y:Operand} {w:World} {f:Nat→Value} {p:Int→Prop}
theorem qh (a b:Int) (X:World):Bn P .leq T x y (.int .i64 a) (.int .i64 b) X = .ok (.bool (decide (a≤b))) X:=by
 by_cases h:a≤b
 · rw [decide_eq_true h];exact fE h X
 · rw [decide_eq_false h];exact jf h X
theorem xz (a b:Int) (X:World):Bn P .geq T x y (.int .i64 a) (.int .i64 b) X = .ok (.bool (decide (a≥b))) X:=by
 by_cases h:a≥b
 · rw [decide_eq_true h];exact dD h X
 · rw [decide_eq_false h];exact dN h X
theorem gy (a b:Int) (X:World):Bn P .eql T x y (.int .i64 a) (.int .i64 b) X = .ok (.bool (decide (a=b))) X:=by
 by_cases h:a=b
 · rw [decide_eq_true h];exact aI h X
 · rw [decide_eq_false h];exact aA h X
end
section
variable {P:Program} {Q:Exit→Act→World→Prop} {n:Nat} {ds:List Deferred} {w0:World} {cs:List Code} {l:Fr} {B:Bx} {Γ:Gm} {L:List Oper}
theorem Vx {ord:Option (List Nat)} {l0:Fr} {B0:Bx} {Γ0:Gm} {tr:Tr} {d:Nat} {o:Oper} {rd:List Nat} {lr:Fr} {Γr:Gm} (P9 gs:List Nat) (g:Nat) (S:RS) (res:SV) (ho:nth L (oi ord tr.length)=some o) (hd:o.dst=some d) (hrd:Di L o.guard++P9=rd) (hlr:kX (vS l0 tr) rd=lr) (hg:lJ L lr o.guard=some true) (hΓ:qb (Eg Γ0 tr) gs=Γr) (DY:∀ α γ w,Holds w0 [] Γr α γ w→∃ F w',(∀ k,bU (F k)=true)∧(∀ ρ,Cons ρ (iI α γ lr)→(execOp ρ o).run P w = .ok (.value (den α (upd γ g F) res)) w')∧S.R w' F∧aS w w') (h:DA P Q n ds w0 cs L ord l0 B0 Γ0 (⟨some d,res,rd,[],gs,none,none,some (g,S.S)⟩::tr)):DA P Q n ds w0 cs L ord l0 B0 Γ0 tr:=fun ha=>h (by subst hΓ hlr;exact ⟨.eff o d g S.S res rd gs ho hd hg (fun α γ w hH=>by obtain ⟨F,w',h1,h2,h3,h4⟩:=DY α γ w hH;exact ⟨F,w',h1,h2,RS.new h3 h4,h4⟩),ha⟩)
theorem acJ {ord:Option (List Nat)} {l0:Fr} {B0:Bx} {Γ0:Gm} {tr:Tr} {d:Nat} {o:Oper} {rd:List Nat} {lr:Fr} {e:TypeId} {m:Nat} (vs:List Value) (g:Nat) (S:RS) (ho:nth L (oi ord tr.length)=some o) (hd:o.dst=some d) (hrd:Di L o.guard=rd) (hlr:kX (vS l0 tr) rd=lr) (hg:lJ L lr o.guard=some true) (hk:∀ α γ,known (iI α γ lr) o.op=true) (he:∀ α γ X,(execOp (LC (iI α γ lr)) o).run P X = .ok (.value (.slice (some ⟨X.heap.size,0,none⟩) m m)) (X.alloc (.cells vs.toArray e))) (hR:∀ N w,Cb w N e vs→S.R w (tK [.slice (some ⟨N,0,none⟩) m m])) (h:DA P Q n ds w0 cs L ord l0 B0 Γ0 (⟨some d,.c g 0,rd,[],[],none,none,some (g,S.S)⟩::tr)):DA P Q n ds w0 cs L ord l0 B0 Γ0 tr :=
 Vx [] [] g S (.c g 0) ho hd (by rw [List.append_nil];exact hrd) hlr hg rfl (fun α γ w _=>⟨tK [.slice (some ⟨w.heap.size,0,none⟩) m m],w.alloc (.cells vs.toArray e),fA rfl,fun ρ hρ=>by
  rw [ku hρ (hk α γ),he α γ w,show den α (upd γ g (tK [.slice (some ⟨w.heap.size,0,none⟩) m m])) (.c g 0)=upd γ g (tK [.slice (some ⟨w.heap.size,0,none⟩) m m]) g 0 from rfl,upd_same];rfl,hR _ _ (Cb.new w e vs),aS.alloc w _⟩) h
end
theorem L8 {P:Program} {f:FuncId} {args:Array Value} {w:World} {α:Env} {γ:l7} {z z':Int} (g:Nat) (h:Calls P f args w fun e w'=>(∃ u v,e = .returned (.tuple #[u,v,.int .i64 0])∧Zn w' u z∧Zn w' v z')∧aS w w') :Calls P f args w (fun e w'=>∃ F,(∀ k,bU (F k)=true)∧e = .returned (den α (upd γ g F) (.t [.a [.c g 0,.c g 1],.a [.c g 2,.c g 3],.v (.int .i64 0)]))∧(P7 z).R w' F∧aS w w'):=Calls.mono h fun e w' ⟨⟨u,v,he,⟨A,c,hu,hU⟩,⟨A2,c2,hv,hV⟩⟩,hE⟩=>by subst hu hv he;refine ⟨tK [.bool (decide (z<0)),.slice A (limbs z.natAbs).length c,.bool (decide (z'<0)),.slice A2 (limbs z'.natAbs).length c2],fA rfl,?_,⟨A,c,rfl,hU⟩,hE⟩;simp only [den,dU,upd_same];rfl
section
variable {P:Program} {Q:Exit→Act→World→Prop} {n:Nat} {ds:List Deferred} {w0:World} {cs:List Code} {l:Fr} {B:Bx} {Γ:Gm} {L:List Oper}
theorem bQ {r:qE} {i m d:Nat} {o:Oper} {x y:Operand} {op:BinOp} {tx ty:TypeId} {u u':Value} {p:Prop} {ip:Decidable p} (hr:∀ X,Bn P op tx x y u u' X = .ok (.bool (decide p)) X) (e:(nth L i,o.op,o.dst,lJ L l o.guard,ev l x,ev l y)=(some o,.binOp op tx x y ty,some d,some true,some (.v u),some (.v u'))) (h1:p→HA P Q n ds w0 cs L r ((d,.v (.bool true))::l) B Γ) (h2:¬ p→HA P Q n ds w0 cs L r ((d,.v (.bool false))::l) B Γ):HA P Q n ds w0 cs L ((false,i,m)::r) l B Γ:=by simp only [Prod.mk.injEq] at e;exact E5 hr e.1 e.2.1 e.2.2.1 e.2.2.2.1 e.2.2.2.2.1 e.2.2.2.2.2 h1 h2
variable {ord:Option (List Nat)} {l0:Fr} {B0:Bx} {Γ0:Gm} {tr:Tr}
end
end Rf
namespace Fm
open Dy
theorem Nf.order {b p:Nat} (hb:2≤b) (hp:1≤p) {lo m e n f:Int} (h:Nf b p lo m e) (g:Nf b p lo n f):vl b m e<vl b n f↔e<f∨e=f∧m<n:=by
 constructor
 · intro hl;rcases Int.lt_trichotomy e f with h1 | h1 | h1
   · exact .inl h1
   · subst h1;exact .inr ⟨rfl,(vW hb).1 hl⟩
   · exact absurd hl (Rat.not_lt.2 (Rat.le_of_lt (g.Oy hb hp h h1)))
 · rintro (h1 | ⟨rfl,h1⟩)
   · exact h.Oy hb hp g h1
   · exact (vW hb).2 h1
theorem Nf.mQ {b p:Nat} (hb:2≤b) (hp:1≤p) {lo m e n f:Int} (h:Nf b p lo m e) (g:Nf b p lo n f):vl b n f≤vl b m e∨vl b (m+1) e≤vl b n f:=by have:=oJ hb hp (h.fit hb) g;rwa [zo hb] at this
theorem Nf.under {b p:Nat} (hb:2≤b) (hp:1≤p) {lo e:Int} (he:lo<e):Nf b p lo (((b^p:Nat):Int)-1) (e-1)∧vl b (((b^p:Nat):Int)-1+1) (e-1)=vl b ((b^(p-1):Nat):Int) e:=by
 have h1:b^p=b^(p-1)*b:=by rw [← Nat.pow_succ,show (p-1).succ=p by omega]
 have hk:=Nat.pow_pos (n:=p-1) (show 0<b by omega);have h2:b^(p-1)*2≤b^p:=by rw [h1];exact Nat.mul_le_mul_left _ hb
 refine ⟨⟨by omega,by omega,by omega,.inr (by omega)⟩,?_⟩;rw [show ((b^p:Nat):Int)-1+1=((b^p:Nat):Int) by omega,h1,Int.natCast_mul,Qr hb,show e-1+1=e by omega]
theorem JN {b p:Nat} (hb:2≤b) (hp:1≤p) {lo hi:Int} {x y:Fl} (hx:bT b p lo hi x) (hy:bT b p lo hi y) (h:ext b p hi x=ext b p hi y):x=y∨∃ n k,x = .zero n∧y = .zero k:=by
 have ht:=oZ (p:=p) hb hi;have pos:∀ {m e:Int},Nf b p lo m e→0<vl b m e:=fun h=>(nZ hb).2 h.2.1;cases x with
 | zero n =>
  cases y with
  | zero k=>exact .inr ⟨n,k,rfl,rfl⟩
  | fin k m e =>have:=pos hy.1;cases k<;>simp only [ext,sv,Bool.false_eq_true,if_true,if_false] at h<;>grind
  | inf k=>cases k<;>simp only [ext,sv,Bool.false_eq_true,if_true,if_false] at h<;>grind
 | fin n m e =>
  have h1:=pos hx.1;have h2:=hx.1.iw hb hx.2;cases y with
  | zero k=>cases n<;>simp only [ext,sv,Bool.false_eq_true,if_true,if_false] at h<;>grind
  | fin k m' e' =>
   have h3:=pos hy.1;left
   have hv:n=k∧vl b m e=vl b m' e':=by
    cases n<;>cases k<;>simp only [ext,sv,Bool.false_eq_true,if_true,if_false] at h
    · exact ⟨rfl,h⟩
    · exfalso;grind
    · exfalso;grind
    grind
   obtain ⟨rfl,hv⟩:=hv;obtain ⟨rfl,rfl⟩:=Nf.uniq hb hp hx.1 hy.1 hv;rfl
  | inf k=>cases n<;>cases k<;>simp only [ext,sv,Bool.false_eq_true,if_true,if_false] at h<;>exfalso<;>grind
 | inf n =>
  cases y with
  | zero k=>cases n<;>simp only [ext,sv,Bool.false_eq_true,if_true,if_false] at h<;>exfalso<;>grind
  | fin k m e =>have h1:=pos hy.1;have h2:=hy.1.iw hb hy.2;cases n<;>cases k<;>simp only [ext,sv,Bool.false_eq_true,if_true,if_false] at h<;>exfalso<;>grind
  | inf k =>
   left;cases n<;>cases k<;>simp only [ext,sv,Bool.false_eq_true,if_true,if_false] at h
   · rfl
   · exfalso;grind
   · exfalso;grind
   · rfl
theorem FP {b p:Nat} (hb:2≤b) (lo:Int):Fit b p lo 0 lo∧dg b 0 lo=0:=by
 have h:dg b 0 lo=0:=by unfold dg;rw [Rat.zero_mul];exact Oo 0
 have hk:=Nat.pow_pos (n:=p) (show 0<b by omega);exact ⟨⟨Int.le_refl _,by rw [h];omega,.inl rfl⟩,h⟩
theorem uu {b p:Nat} (hb:2≤b) (hp:1≤p) {lo m e:Int} (h:Nf b p lo m e):vl b 1 lo≤vl b m e:=by
 obtain ⟨h1,h2⟩:=FP (p:=p) hb lo;rcases oJ hb hp h1 h with h3 | h3
 · rw [h2,lC] at h3;exact absurd h3 (Rat.not_le.2 ((nZ hb).2 h.2.1))
 grind
theorem Bq {b p:Nat} (hb:2≤b) (hp:1≤p) {lo m e:Int} (h:Nf b p lo m e) :((iL b p lo m e).1=0∨Nf b p lo (iL b p lo m e).1 (iL b p lo m e).2)∧(iL b p lo m e).2≤e∧vl b ((iL b p lo m e).1+1) (iL b p lo m e).2=vl b m e ∧∀ n f,Nf b p lo n f→vl b n f<vl b m e→vl b n f≤vl b (iL b p lo m e).1 (iL b p lo m e).2:=by
 obtain ⟨h1,h2,h3,h4⟩:=h;unfold iL;by_cases hc:lo<e∧m-1<((b^(p-1):Nat):Int)
 · rw [if_pos hc];obtain ⟨g1,g2⟩:=Nf.under (p:=p) hb hp hc.1;have hm:m=((b^(p-1):Nat):Int):=(by rcases h4 with h4 | h4<;>omega);refine ⟨.inr g1,by show e-1≤e;omega,by rw [hm];exact g2,fun n f hn hl=>?_⟩;rcases g1.mQ hb hp hn with h5 | h5
   · exact h5
   grind
 · rw [if_neg hc];by_cases hz:m-1=0
   · have he:e=lo:=by
      rcases h4 with h4 | h4
      · exact h4
      · have hk:=Nat.pow_pos (n:=p-1) (show 0<b by omega);omega
     refine ⟨.inl hz,Int.le_refl _,by rw [show m-1+1=m by omega],fun n f hn hl=>?_⟩;have h5:=uu hb hp hn;grind
   · have g:Nf b p lo (m-1) e:=⟨h1,by omega,by omega,by rcases h4 with h4 | h4;exact .inl h4;(by_cases he:lo<e;exact .inr (by omega);exact .inl (by omega))⟩;refine ⟨.inr g,Int.le_refl _,by rw [show m-1+1=m by omega],fun n f hn hl=>?_⟩;rcases g.mQ hb hp hn with h5 | h5
     · exact h5
     grind
theorem uw (b p:Nat) (lo hi m e:Int):eG b p lo hi (.fin false m e)=if (kY b p (m+1) e).2≤hi then .fin false (kY b p (m+1) e).1 (kY b p (m+1) e).2 else .inf false:=rfl
theorem lW (b p:Nat) (lo hi m e:Int):eG b p lo hi (.fin true m e)=if (iL b p lo m e).1=0 then .zero true else .fin true (iL b p lo m e).1 (iL b p lo m e).2:=rfl
theorem og {b p:Nat} (hb:2≤b) (hp:1≤p) {lo hi m e:Int} (hl:lo≤hi) (h:Nf b p lo m e) (he:e≤hi):ext b p hi (eG b p lo hi (.fin false m e))=vl b (m+1) e∧bT b p lo hi (eG b p lo hi (.fin false m e)):=by
 have hv:=xu hb hp (m+1) e;have hn:=h.next hb hp;rw [uw];split
 · next h1=>exact ⟨hv,hn,h1⟩
 · next h1 =>
   refine ⟨?_,trivial⟩;unfold kY at h1;split at h1
   · next h2 =>obtain rfl:e=hi:=(by omega);rw [h2];rfl
   omega
theorem lX {b p:Nat} (hb:2≤b) (hp:1≤p) {lo hi:Int} (hl:lo≤hi) {x:Fl} (hx:bT b p lo hi x) (hi0:x≠.inf false) :bT b p lo hi (eG b p lo hi x)∧ext b p hi x<ext b p hi (eG b p lo hi x)∧∀ y,bT b p lo hi y→ext b p hi x<ext b p hi y→ext b p hi (eG b p lo hi x)≤ext b p hi y:=by
 have htp:=oZ (p:=p) hb hi;have hG:=rQ (b:=b) (p:=p) hb hp hl;have hGt:=hG.iw hb (Int.le_refl hi);have pos:∀ {m e:Int},Nf b p lo m e→0<vl b m e:=fun h=>(nZ hb).2 h.2.1;have one:Nf b p lo 1 lo:=by have h1:1<b^p:=Nat.one_lt_pow (by omega) (by omega);exact ⟨Int.le_refl _,by omega,by omega,.inl rfl⟩
 cases x with
 | zero n =>
  refine ⟨⟨one,hl⟩,pos one,fun y hy hlt=>?_⟩;show vl b 1 lo≤_;cases y with
  | zero k=>exact absurd hlt Rat.lt_irrefl
  | fin k m e =>
   have:=pos hy.1;cases k with
   | false=>exact uu hb hp hy.1
   | true=>exact absurd (show (0:Rat) < -vl b m e from hlt) (Rat.not_lt.2 (by grind))
  | inf k =>
   cases k with
   | false=>exact Rat.le_of_lt (one.iw hb hl)
   | true=>exact absurd (show (0:Rat) < -vl b ((b^p:Nat):Int) hi from hlt) (Rat.not_lt.2 (by grind))
 | inf n =>
  cases n with
  | false=>exact absurd rfl hi0
  | true =>
   refine ⟨⟨hG,Int.le_refl _⟩,show -vl b ((b^p:Nat):Int) hi < -vl b (((b^p:Nat):Int)-1) hi by grind,fun y hy hlt=>?_⟩;show -vl b (((b^p:Nat):Int)-1) hi≤_;have hg0:=pos hG;cases y with
   | zero k=>show _≤(0:Rat);grind
   | fin k m e =>
    have h1:=pos hy.1;have h2:=hy.1.oK hb hp hl hy.2;cases k with
    | false=>show _≤vl b m e;grind
    | true=>show _ ≤ -vl b m e;grind
   | inf k =>
    cases k with
    | false=>show _≤vl b ((b^p:Nat):Int) hi;grind
    | true=>exact absurd hlt Rat.lt_irrefl
 | fin n m e =>
  have hx0:=pos hx.1;cases n with
  | false =>
   obtain ⟨h1,h2⟩:=og hb hp hl hx.1 hx.2;refine ⟨h2,by rw [h1];exact (vW hb).2 (by omega),fun y hy hlt=>?_⟩;rw [h1];have hlt:vl b m e<ext b p hi y:=hlt;cases y with
   | zero k=>exact absurd (show vl b m e<0 from hlt) (Rat.not_lt.2 (Rat.le_of_lt hx0))
   | fin k n f =>
    have h3:=pos hy.1;cases k with
    | false =>
     rcases hx.1.mQ hb hp hy.1 with h4 | h4
     · exact absurd (show vl b m e<vl b n f from hlt) (Rat.not_lt.2 h4)
     · exact h4
    | true=>exact absurd (show vl b m e < -vl b n f from hlt) (Rat.not_lt.2 (by grind))
   | inf k =>
    cases k with
    | false =>have h3:=hx.1.2.2.1;exact Rat.le_trans ((rR hb).2 (by omega)) (xw hb (m:=((b^p:Nat):Int)) (by omega) hx.2)
    | true=>exact absurd (show vl b m e < -vl b ((b^p:Nat):Int) hi from hlt) (Rat.not_lt.2 (by grind))
  | true =>
   obtain ⟨h1,h2,h3,h4⟩:=Bq hb hp hx.1
   have hE:ext b p hi (eG b p lo hi (.fin true m e)) = -vl b (iL b p lo m e).1 (iL b p lo m e).2:=by
    rw [lW];by_cases hz:(iL b p lo m e).1=0
    · rw [if_pos hz,hz,lC];show (0:Rat) = -0;grind
    · rw [if_neg hz];rfl
   have hlow:vl b (iL b p lo m e).1 (iL b p lo m e).2<vl b m e:=by rw [← h3];exact (vW hb).2 (by omega)
   have afb:0≤vl b (iL b p lo m e).1 (iL b p lo m e).2:=by
    rcases h1 with h1 | h1
    · rw [h1,lC];exact Rat.le_refl
    · exact Rat.le_of_lt (pos h1)
   refine ⟨?_,?_,fun y hy hlt=>?_⟩
   · rw [lW];by_cases hz:(iL b p lo m e).1=0
     · rw [if_pos hz];trivial
     · rw [if_neg hz];have hx2:=hx.2;exact ⟨h1.resolve_left hz,by omega⟩
   · rw [hE];show -vl b m e<_;grind
   · rw [hE];have hlt : -vl b m e<ext b p hi y:=hlt;cases y with
     | zero k=>show _≤(0:Rat);grind
     | fin k n f =>
      have h5:=pos hy.1;cases k with
      | false=>show _≤vl b n f;grind
      | true =>have hlt : -vl b m e < -vl b n f:=hlt;have:=h4 n f hy.1 (by grind);show _ ≤ -vl b n f;grind
     | inf k =>
      cases k with
      | false=>show _≤vl b ((b^p:Nat):Int) hi;grind
      | true =>have h5:=hx.1.iw hb hx.2;exact absurd (show -vl b m e < -vl b ((b^p:Nat):Int) hi from hlt) (Rat.not_lt.2 (by grind))
theorem ve {b p:Nat} (hb:2≤b) {lo hi:Int} {x:Fl} (hx:bT b p lo hi x) : -vl b ((b^p:Nat):Int) hi≤ext b p hi x∧ext b p hi x≤vl b ((b^p:Nat):Int) hi:=by
 have htp:=oZ (p:=p) hb hi;cases x with
 | zero n=>exact ⟨show _≤(0:Rat) by grind,show (0:Rat)≤_ by grind⟩
 | fin n m e =>
  have h1:=(nZ hb (e:=e)).2 hx.1.2.1;have h2:=hx.1.iw hb hx.2;cases n with
  | false=>exact ⟨show _≤vl b m e by grind,show vl b m e≤_ by grind⟩
  | true=>exact ⟨show _ ≤ -vl b m e by grind,show -vl b m e≤_ by grind⟩
 | inf n =>
  cases n with
  | false=>exact ⟨show _≤vl b ((b^p:Nat):Int) hi by grind,Rat.le_refl⟩
  | true=>exact ⟨Rat.le_refl,show -vl b ((b^p:Nat):Int) hi≤_ by grind⟩
theorem qG {b:Nat} (hb:2≤b) {e f:Int} (h:e≤f):bp b e≤bp b f:=by have:=xw hb (m:=1) (by decide) h;unfold vl at this;grind
theorem qH {b:Nat} (m e:Int):vl b (m+1) e=vl b m e+bp b e:=by unfold vl;grind
theorem FQ {b p:Nat} (hb:2≤b) (hp:1≤p) {lo hi:Int} (hl:lo≤hi) {x:Fl} (hx:bT b p lo hi x) (hi0:∀ n,x≠.inf n):ext b p hi x+bp b lo≤ext b p hi (eG b p lo hi x):=by
 cases x with
 | zero n =>show (0:Rat)+bp b lo≤vl b 1 lo;have:=qH (b:=b) 0 lo;rw [lC,show (0:Int)+1=1 by decide] at this;grind
 | inf n=>exact absurd rfl (hi0 n)
 | fin n m e =>
  cases n with
  | false =>rw [(og hb hp hl hx.1 hx.2).1,qH];have h1:=qG hb hx.1.1;show vl b m e+bp b lo≤_;grind
  | true =>
   obtain ⟨h1,h2,h3,h4⟩:=Bq hb hp hx.1;have hlo:lo≤(iL b p lo m e).2:=(by have h5:=hx.1.1;unfold iL;grind);have h6:=qG hb hlo;rw [qH] at h3
   have hE:ext b p hi (eG b p lo hi (.fin true m e)) = -vl b (iL b p lo m e).1 (iL b p lo m e).2:=by
    rw [lW];by_cases hz:(iL b p lo m e).1=0
    · rw [if_pos hz,hz,lC];show (0:Rat) = -0;grind
    · rw [if_neg hz];rfl
   show -vl b m e+bp b lo≤_;grind
theorem FR {b p:Nat} (hb:2≤b) (hp:1≤p) {lo hi:Int} (hl:lo≤hi) {x y:Fl} {t:Rat} (hx:bT b p lo hi x) (hi0:∀ n,x≠.inf n) (h0:0<t) (h1:t≤bp b lo) (h:Rd b p lo hi 3 (ext b p hi x+t) y):ext b p hi y=ext b p hi (eG b p lo hi x):=by
 obtain ⟨n1,n2,n3⟩:=lX hb hp hl hx (hi0 false);have hg:=FQ hb hp hl hx hi0;have hy:=h.ok hb hp hl;obtain ⟨u1,u2⟩:=h.up hb hp hl
 have hxy:ext b p hi x<ext b p hi y:=by
  rcases u1 with u1 | u1
  · grind
  · rw [u1];have:=(ve hb n1).2;show ext b p hi x<vl b ((b^p:Nat):Int) hi;grind
 refine Rat.le_antisymm ?_ (n3 y hy hxy);cases hn:eG b p lo hi x with
 | inf k =>
  cases k with
  | false=>exact (ve hb hy).2
  | true =>rw [hn] at n2;exact absurd (show ext b p hi x < -vl b ((b^p:Nat):Int) hi from n2) (Rat.not_lt.2 (ve hb hx).1)
 | zero k =>grind
 | fin k m e =>grind
theorem qg (b p:Nat) (hi:Int) {x:Fl} (h:∀ n,x≠.inf n):ext b p hi x=vf b x:=by
 cases x with
 | zero n=>rfl
 | fin n m e=>rfl
 | inf n=>exact absurd rfl (h n)
open Classical in
theorem FT {b p:Nat} {hi:Int} {d:Nat} {neg n:Bool} {m e:Int} (h:res b p hi d neg m e = .zero n):n=neg∧(kY b p m e).1=0:=by unfold res at h;grind
theorem Rd.Ct {b p:Nat} {lo hi:Int} {d:Nat} {q:Rat} {n:Bool} (h:Rd b p lo hi d q (.zero n)):n=decide (q<0):=by
 rcases h with ⟨h1,h2⟩ | ⟨h1,e,h2,h3⟩
 · grind
 · exact (FT h3.symm).1
theorem Oq {b p:Nat} (hb:2≤b) {lo m e:Int} (h:Nf b p lo m e):bp b lo≤vl b m e:=by
 have h1:=qG hb h.1;have h2:vl b 1 e≤vl b m e:=(rR hb).2 (by have:=h.2.1;omega);have h3:vl b 1 e=bp b e:=by unfold vl;rw [Rat.intCast_one,Rat.one_mul]
 grind
theorem JO {b p:Nat} (hb:2≤b) (hp:1≤p) {lo hi:Int} (hl:lo≤hi) {x:Fl} {t:Rat} (hx:bT b p lo hi x) (hi0:∀ n,x≠.inf n) (h0:0<t) (h1:t<bp b lo):rd b p lo hi 3 (vf b x+t)=eG b p lo hi x:=by
 have hv:=qg b p hi hi0;have hr:=tZ hb hp lo hi 3 (vf b x+t);have hr':=hr;rw [← hv] at hr';have he:=FR hb hp hl hx hi0 h0 (Rat.le_of_lt h1) hr';rw [hv] at he;rcases JN hb hp (hr.ok hb hp hl) (lX hb hp hl hx (hi0 false)).1 he with h | ⟨n,k,h2,h3⟩
 · exact h
 · rw [h2,h3];rw [h2] at hr;have hs:=hr.Ct;cases x with
   | zero j=>cases h3
   | inf j=>exact absurd rfl (hi0 j)
   | fin j m e =>
    cases j with
    | false=>rw [uw] at h3;split at h3<;>cases h3
    | true =>
     rw [lW] at h3;split at h3
     · cases h3;rw [hs,decide_eq_true];have:=Oq hb hx.1;show -vl b m e+t<0;grind
     · cases h3
def fJ (p q:Rat):Int:=if p<q then -1 else if q<p then 1 else 0
theorem kD {p q:Rat} (h:p<q):fJ p q = -1:=if_pos h
theorem kE {p q:Rat} (h:q<p):fJ p q=1:=by unfold fJ;rw [if_neg (by grind),if_pos h]
theorem fZ {p q:Rat} (h:p=q):fJ p q=0:=by unfold fJ;rw [if_neg (by grind),if_neg (by grind)]
theorem Vy (p q:Rat):fJ (-p) (-q) = -fJ p q:=by
 rcases (show p<q∨p=q∨q<p by grind) with h | h | h
 · rw [kD h,kE (by grind)];rfl
 · rw [fZ h,fZ (by grind)];rfl
 · rw [kE h,kD (by grind)]
theorem Zj {n k:Bool} {m e j f:Int} (hm:0<m) (hj:0<j):szF (.fin n m e) (.fin k j f)=if e<f then -1 else if f<e then 1 else if m<j then -1 else if j<m then 1 else 0:=by show (if (1:Int)<1 then -1 else if (1:Int)<1 then 1 else if e<f then -1 else if f<e then 1 else if m.natAbs<j.natAbs then -1 else if j.natAbs<m.natAbs then 1 else (0:Int))=_;omega
theorem Zk {b p:Nat} (hb:2≤b) (hp:1≤p) {lo:Int} {n k:Bool} {m e j f:Int} (h:Nf b p lo m e) (g:Nf b p lo j f):szF (.fin n m e) (.fin k j f)=fJ (vl b m e) (vl b j f):=by
 rw [Zj h.2.1 g.2.1];have h1:=Nf.order hb hp h g;have h2:=Nf.order hb hp g h;by_cases c1:e<f
 · rw [if_pos c1,kD (h1.2 (.inl c1))]
 · rw [if_neg c1];by_cases c2:f<e
   · rw [if_pos c2,kE (h2.2 (.inl c2))]
   · rw [if_neg c2];obtain rfl:e=f:=(by omega);by_cases c3:m<j
     · rw [if_pos c3,kD (h1.2 (.inr ⟨rfl,c3⟩))]
     · rw [if_neg c3];by_cases c4:j<m
       · rw [if_pos c4,kE (h2.2 (.inr ⟨rfl,c4⟩))]
       · rw [if_neg c4];obtain rfl:m=j:=(by omega);rw [fZ rfl]
theorem Vz {b p:Nat} (hb:2≤b) (hp:1≤p) {lo hi:Int} {x y:Fl} (hx:bT b p lo hi x) (hy:bT b p lo hi y):tY x y=fJ (ext b p hi x) (ext b p hi y):=by
 have ht:=oZ (p:=p) hb hi;have pos:∀ {m e:Int},Nf b p lo m e→0<vl b m e:=fun h=>(nZ hb).2 h.2.1;cases x with
 | zero n =>
  cases y with
  | zero k=>rfl
  | fin k m e =>
   have h1:=pos hy.1;cases k with
   | true=>show (1:Int)=fJ 0 (-vl b m e);rw [kE (by grind)]
   | false=>show (-1:Int)=fJ 0 (vl b m e);rw [kD (by grind)]
  | inf k =>
   cases k with
   | true=>show (1:Int)=fJ 0 (-vl b ((b^p:Nat):Int) hi);rw [kE (by grind)]
   | false=>show (-1:Int)=fJ 0 (vl b ((b^p:Nat):Int) hi);rw [kD (by grind)]
 | fin n m e =>
  have h1:=pos hx.1;have h2:=hx.1.iw hb hx.2;cases y with
  | zero k =>
   cases n with
   | true=>show (-1:Int)=fJ (-vl b m e) 0;rw [kD (by grind)]
   | false=>show (1:Int)=fJ (vl b m e) 0;rw [kE (by grind)]
  | fin k j f =>
   have h3:=pos hy.1;have h4:=Zk (n:=n) (k:=k) hb hp hx.1 hy.1;cases n with
   | true =>
    cases k with
    | true=>show (-1:Int)*szF (.fin true m e) (.fin true j f)=fJ (-vl b m e) (-vl b j f);rw [h4,Vy];omega
    | false=>show (-1:Int)=fJ (-vl b m e) (vl b j f);rw [kD (by grind)]
   | false =>
    cases k with
    | true=>show (1:Int)=fJ (vl b m e) (-vl b j f);rw [kE (by grind)]
    | false=>show (1:Int)*szF (.fin false m e) (.fin false j f)=fJ (vl b m e) (vl b j f);rw [h4];omega
  | inf k =>
   cases n with
   | true =>
    cases k with
    | true=>show (1:Int)=fJ (-vl b m e) (-vl b ((b^p:Nat):Int) hi);rw [kE (by grind)]
    | false=>show (-1:Int)=fJ (-vl b m e) (vl b ((b^p:Nat):Int) hi);rw [kD (by grind)]
   | false =>
    cases k with
    | true=>show (1:Int)=fJ (vl b m e) (-vl b ((b^p:Nat):Int) hi);rw [kE (by grind)]
    | false=>show (-1:Int)=fJ (vl b m e) (vl b ((b^p:Nat):Int) hi);rw [kD (by grind)]
 | inf n =>
  cases y with
  | zero k =>
   cases n with
   | true=>show (-1:Int)=fJ (-vl b ((b^p:Nat):Int) hi) 0;rw [kD (by grind)]
   | false=>show (1:Int)=fJ (vl b ((b^p:Nat):Int) hi) 0;rw [kE (by grind)]
  | fin k j f =>
   have h3:=pos hy.1;have h2:=hy.1.iw hb hy.2;cases n with
   | true =>
    cases k with
    | true=>show (-1:Int)=fJ (-vl b ((b^p:Nat):Int) hi) (-vl b j f);rw [kD (by grind)]
    | false=>show (-1:Int)=fJ (-vl b ((b^p:Nat):Int) hi) (vl b j f);rw [kD (by grind)]
   | false =>
    cases k with
    | true=>show (1:Int)=fJ (vl b ((b^p:Nat):Int) hi) (-vl b j f);rw [kE (by grind)]
    | false=>show (1:Int)=fJ (vl b ((b^p:Nat):Int) hi) (vl b j f);rw [kE (by grind)]
  | inf k =>
   cases n with
   | true =>
    cases k with
    | true=>show (0:Int)=fJ (-vl b ((b^p:Nat):Int) hi) (-vl b ((b^p:Nat):Int) hi);rw [fZ rfl]
    | false=>show (-1:Int)=fJ (-vl b ((b^p:Nat):Int) hi) (vl b ((b^p:Nat):Int) hi);rw [kD (by grind)]
   | false =>
    cases k with
    | true=>show (1:Int)=fJ (vl b ((b^p:Nat):Int) hi) (-vl b ((b^p:Nat):Int) hi);rw [kE (by grind)]
    | false=>show (0:Int)=fJ (vl b ((b^p:Nat):Int) hi) (vl b ((b^p:Nat):Int) hi);rw [fZ rfl]
end Fm
def U8 (x y:Rat) (k:Int):Prop := -1≤k∧k≤1∧(k<0↔x<y)∧(k=0↔x=y)∧(0<k↔y<x)
theorem jv (w:World) (vn vd:Value) (n d:Int) (q:Rat) (hn:Zn w vn n) (hd:Zn w vd d) (L M:Nat) (ln:Sz n L) (ld:Sz d M) (hL:L≤100) (hM:M≤100) (hd0:d≠0) (hq:Rat.divInt n d=q) :A0h 66 #[vn,vd] w q L M:=by
 obtain ⟨An,cn,rfl,un⟩:=hn;obtain ⟨Ad,cd,rfl,ud⟩:=hd;refine d9 (n:=14) (vs:=[.agg #[.bool (decide (n<0)),.slice An (limbs (Int.natAbs n)).length cn],.agg #[.bool (decide (d<0)),.slice Ad (limbs (Int.natAbs d)).length cd]]) func66 rfl (by kernel_rfl) (by simp) ?_;refine dP rfl<|pU (cs:=[.bool (decide (n<0)),.slice An (limbs (Int.natAbs n)).length cn]) rfl rfl rfl rfl rfl rfl (fun Y hY=>trivial) ?_;intro N1 w1 hE1 uf fF;have Co:=Pl.Cb.lt fF;have R5:=aS.size hE1;refine pU (cs:=[.bool (decide (d<0)),.slice Ad (limbs (Int.natAbs d)).length cd]) rfl rfl rfl rfl rfl rfl (fun Y hY=>trivial) ?_;intro N2 w2 hE2 wQ dV;have Fj:=Pl.Cb.lt dV;have TJ:=aS.size hE2;refine nC (z:=.agg #[.bool false,.slice none 0 0,.slice none 0 0]) (by kernel_rfl) rfl rfl rfl rfl (fun Y hY=>trivial) ?_;intro N3 w3 fV IL gG;have R6:=Pl.Cb.lt gG;have TK:=aS.size fV;replace gG:Pl.Cb w3 N3 36 [.bool false,.slice none 0 0,.slice none 0 0]:=gG;refine aT<|dP rfl<|lm (part:=[.bool (decide (n<0)),.slice An (limbs (Int.natAbs n)).length cn]) (Pl.Cb.ex fF (aS.trans hE2 fV)) rfl underlying34 rfl (by kernel_rfl) trivial rfl rfl rfl rfl rfl ?_;refine lm (part:=[.bool (decide (d<0)),.slice Ad (limbs (Int.natAbs d)).length cd]) (Pl.Cb.ex dV fV) rfl underlying34 rfl (by kernel_rfl) trivial rfl rfl rfl rfl rfl ?_;refine dQ rfl rfl rfl rfl rfl (cZ rfl)<|Calls.mono (bz _ _ _ n d (Zn.of (Un.below un (aS.trans hE1 (aS.trans hE2 fV)))) (Zn.of (Un.below ud (aS.trans hE1 (aS.trans hE2 fV)))) L M ln ld hL hM hd0) ?_;rintro e w4 ⟨vq,rfl,Au,jI⟩;rw [hq] at Au;obtain ⟨A1,c1,A2,c2,rfl,u1,u2,z1,z2⟩:=Au;have U9:=aS.size jI;refine ⟨_,rfl,trivial,?_⟩;refine aZ trivial rfl<|nC (z:=.agg #[.bool false,.slice none 0 0,.slice none 0 0]) (by kernel_rfl) rfl rfl rfl rfl (fun Y hY=>trivial) ?_;intro N4 w5 nU aaY nV;have ae8:=Pl.Cb.lt nV;have sz5:=aS.size nU;replace nV:Pl.Cb w5 N4 36 [.bool false,.slice none 0 0,.slice none 0 0]:=nV;refine l6 (new:=[.bool (decide ((Rat.num q)<0)),.slice A1 (limbs (Int.natAbs (Rat.num q))).length c1,.slice A2 (limbs (Rat.den q)).length c2]) nV (by kernel_rfl) rfl (by simp [Value.oneCell']) rfl rfl rfl rfl rfl rfl (fun Y hY=>trivial) ?_;intro w6 Fp wR;have qC:=aS.xs nU Fp (by omega);have Y4:=Pl.Xs.size Fp;refine aZ trivial rfl<|aT<|dP rfl<|lm (part:=[.bool (decide ((Rat.num q)<0)),.slice A1 (limbs (Int.natAbs (Rat.num q))).length c1,.slice A2 (limbs (Rat.den q)).length c2]) wR rfl underlying36 rfl (by kernel_rfl) trivial rfl rfl rfl rfl rfl ?_;refine l6 (new:=[.bool (decide ((Rat.num q)<0)),.slice A1 (limbs (Int.natAbs (Rat.num q))).length c1,.slice A2 (limbs (Rat.den q)).length c2]) (Pl.Cb.ex gG (aS.trans jI qC)) (by kernel_rfl) rfl (by simp [Value.oneCell']) rfl rfl rfl rfl rfl rfl (fun Y hY=>trivial) ?_;intro w7 Hw mM;have rZ:=aS.xs (aS.trans fV (aS.trans jI qC)) Hw (by omega);have Y5:=Pl.Xs.size Hw;have Va:=Pl.Cb.xs wR Hw (by simp;omega);refine aT ?_;have k5:=Un.xs (Un.below u1 qC) Hw (Pl.Cb.ex gG (aS.trans jI qC)) (by simp);have k6:=Un.xs (Un.below u2 qC) Hw (Pl.Cb.ex gG (aS.trans jI qC)) (by simp);repeat refine bu ?_
 exact Pl.kJ rfl rfl mM underlying36 rfl (by kernel_rfl) (⟨_,rfl,(Qn.mk k5 k6 z1 z2),(aS.trans hE1 (aS.trans hE2 rZ))⟩)
theorem Fq {p q:Rat} {k:Int} (h:dA (p.num*((q.den:Nat):Int)) (q.num*((p.den:Nat):Int))=k):U8 p q k:=by have h1:=Fh h;have a:=Rq.wO (a:=p) (b:=q);have b:=Rq.wO (a:=q) (b:=p);have c:=Rq.cmp_eq (a:=p) (b:=q);refine ⟨by omega,by omega,by rw [a];omega,by rw [c];omega,by rw [b];omega⟩
theorem Fu {p:Rat} {k:Int} (h:Int.sign p.num=k):U6 p k:=by have h1:=Fg h;have a:=Rq.sign_neg (a:=p);have b:=Rq.sign_zero (a:=p);refine ⟨by omega,by omega,by rw [a];omega,by rw [b];omega,?_⟩;rw [← Rat.not_le,Rat.le_iff_lt_or_eq,a,b];omega
theorem wS {p:Rat} {L:Nat} (h:Sz p.num L):Sz p.floor L:=by rw [Rq.pM];exact Sz.div h
theorem cO (w:World) (vn:Value) (n:Int) (L:Nat) (hn:Zn w vn n) (ln:Sz n L) :A0h 54 #[vn] w ((n:Int):Rat) L 1:=by
 obtain ⟨An,cn,rfl,un⟩:=hn;refine d9 (n:=6) (vs:=[.agg #[.bool (decide (n<0)),.slice An (limbs (Int.natAbs n)).length cn]]) func54 rfl (by kernel_rfl) (by simp) ?_;refine dP rfl<|pU (cs:=[.bool (decide (n<0)),.slice An (limbs (Int.natAbs n)).length cn]) rfl rfl rfl rfl rfl rfl (fun Y hY=>trivial) ?_;intro N1 w1 hE1 uf fF;have Co:=Pl.Cb.lt fF;have R5:=aS.size hE1;refine nC (z:=.agg #[.bool false,.slice none 0 0,.slice none 0 0]) (by kernel_rfl) rfl rfl rfl rfl (fun Y hY=>trivial) ?_;intro N2 w2 hE2 wQ dV;have Fj:=Pl.Cb.lt dV;have TJ:=aS.size hE2;replace dV:Pl.Cb w2 N2 36 [.bool false,.slice none 0 0,.slice none 0 0]:=dV;refine aT<|dP rfl<|lm (part:=[.bool (decide (n<0)),.slice An (limbs (Int.natAbs n)).length cn]) (Pl.Cb.ex fF hE2) rfl underlying34 rfl (by kernel_rfl) trivial rfl rfl rfl rfl rfl ?_;refine Qj (e := 57) (n:=1) [.int .u32 1] rfl rfl rfl rfl (by kernel_rfl) (fun Y hY=>trivial) ?_;intro N3 w3 fV IL gG;have R6:=Pl.Cb.lt gG;have TK:=aS.size fV;refine kK (.agg #[.bool (decide (n<0)),.slice An (limbs (Int.natAbs n)).length cn,.slice (some ⟨N3,0,none⟩) 1 1]) trivial rfl rfl rfl rfl (fun X=>by kernel_rfl) ?_;refine l6 (new:=[.bool (decide (n<0)),.slice An (limbs (Int.natAbs n)).length cn,.slice (some ⟨N3,0,none⟩) 1 1]) (Pl.Cb.ex dV fV) (by kernel_rfl) rfl (by simp [Value.oneCell']) rfl rfl rfl rfl rfl rfl (fun Y hY=>trivial) ?_;intro w4 Ma oI;have jI:=aS.xs (aS.trans hE2 fV) Ma (by omega);have U9:=Pl.Xs.size Ma;have mM:=Pl.Cb.xs gG Ma (by simp;omega);refine aT ?_;have hl4:=Un.one (x:=1) mM rfl (by omega);repeat refine bu ?_
 exact Pl.kJ rfl rfl oI underlying36 rfl (by kernel_rfl) (⟨_,rfl,Qn.of (q:=((n:Int):Rat)) rfl rfl (Un.below un (aS.trans hE1 jI)) hl4 ln (show Sn 1 1 from Sn.of (by decide)),(aS.trans hE1 jI)⟩)
theorem rF (w:World) (va vb:Value) (p q:Rat) (L M L2 M2:Nat) (ha:Qn w va p L M) (hb:Qn w vb q L2 M2) (hK:L+M2≤398) (hN:L2+M≤398) :Calls prog 32 #[va,vb] w fun e w'=>∃ k:Int,e = .returned (.int .i64 k)∧U8 p q k∧aS w w':=by obtain ⟨Aa,ca,Ba,ba,rfl,ua,ta,za,ya⟩:=ha;obtain ⟨Ab,cb,Bb,bb,rfl,ub,tb,zb,yb⟩:=hb;refine aC (n:=18) [.a [.c 0 0,.c 0 1,.c 0 2],.a [.c 1 0,.c 1 1,.c 1 2]] [[_,_,_],[_,_,_]] [(0,(fG p L M).S),(1,(fG q L2 M2).S)] func32 rfl (by kernel_rfl) rfl rfl ⟨RS.in ⟨Aa,ca,Ba,ba,rfl,ua,ta,za,ya⟩,RS.in ⟨Ab,cb,Bb,bb,rfl,ub,tb,zb,yb⟩,trivial⟩ ?_;refine bP aa 1 0 rfl<|aQ none fo<|az aa 14 2 rfl<|ah 2 rfl (fun h=>bG 2 (bO _ _ (Rat.den q) (bL (h.r 1 rfl)).2.2.1))<|ah 3 rfl (fun h=>bG 3 (jZ _ _ _ (Rat.num p) (((Rat.den q):Nat):Int) (bL (h.r 0 rfl)).1 (h.r 2 rfl) (Sz.le za (by omega)) (Sz.le (Sn.sz yb) (by omega)) _ rfl)) ?_;refine az aa 14 2 rfl<|ah 4 rfl (fun h=>bG 4 (bO _ _ (Rat.den p) (bL (h.r 0 rfl)).2.2.1))<|ah 5 rfl (fun h=>bG 5 (jZ _ _ _ (Rat.num q) (((Rat.den p):Nat):Int) (bL (h.r 1 rfl)).1 (h.r 4 rfl) (Sz.le zb (by omega)) (Sz.le (Sn.sz ya) (by omega)) _ rfl)) ?_;refine ah 6 rfl (fun h=>LX 6 (Calls.mono (Ff _ _ _ ((Rat.num p)*(((Rat.den q):Nat):Int)) ((Rat.num q)*(((Rat.den p):Nat):Int)) (h.r 3 rfl) (h.r 5 rfl) (Sz.le (Sz.mul za (Sn.sz yb) (by omega):Sz ((Rat.num p)*(((Rat.den q):Nat):Int)) (L+M2)) (by omega)) (Sz.le (Sz.mul zb (Sn.sz ya) (by omega):Sz ((Rat.num q)*(((Rat.den p):Nat):Int)) (L2+M)) (by omega)) _ rfl) fun e w2 ⟨h1,h2⟩=>⟨_,h1,rfl,h2⟩)) ?_;refine az aa 14 2 rfl<|aR (by kernel_rfl) ?_;exact jY [4] [] [6] rfl rfl rfl<|aJ aa rfl (fun h=>by obtain ⟨k,e9,hk⟩:=h.r 6 rfl;exact ⟨k,congrArg Ending.returned e9,Fq hk,h.ex⟩)
theorem pV (w:World) (va:Value) (p:Rat) (L M:Nat) (ha:Qn w va p L M) (hL:L≤1000000) :Calls prog 33 #[va] w fun e w'=>∃ k:Int,e = .returned (.int .i64 k)∧U6 p k∧aS w w':=by obtain ⟨Aa,ca,Ba,ba,rfl,ua,ta,za,ya⟩:=ha;refine aC (n:=6) [.a [.c 0 0,.c 0 1,.c 0 2]] [[_,_,_]] [(0,(fG p L M).S)] func33 rfl (by kernel_rfl) rfl rfl ⟨RS.in ⟨Aa,ca,Ba,ba,rfl,ua,ta,za,ya⟩,trivial⟩ ?_;refine aD aa 1 0 rfl<|ak 1 rfl (fun h=>LX 1 (Calls.mono (Fe _ _ (Rat.num p) (bL (h.r 0 rfl)).1 ((Sz.le za (by omega))) _ rfl) fun e w2 ⟨h1,h2⟩=>⟨_,h1,rfl,h2⟩)) ?_;exact aL aa 0 1 rfl<|aJ aa rfl (fun h=>by obtain ⟨k,e9,hk⟩:=h.r 1 rfl;exact ⟨k,congrArg Ending.returned e9,Fu hk,h.ex⟩)
theorem lu (w:World) (va:Value) (p:Rat) (L M:Nat) (ha:Qn w va p L M) (hL:L≤1000000) :A0h 38 #[va] w (-p) L M:=by
 obtain ⟨Aa,ca,Ba,ba,rfl,ua,ta,za,ya⟩:=ha;refine d9 (n:=9) (vs:=[.agg #[.bool (decide ((Rat.num p)<0)),.slice Aa (limbs (Int.natAbs (Rat.num p))).length ca,.slice Ba (limbs (Rat.den p)).length ba]]) func38 rfl (by kernel_rfl) (by simp) ?_;refine dP rfl<|pU (cs:=[.bool (decide ((Rat.num p)<0)),.slice Aa (limbs (Int.natAbs (Rat.num p))).length ca,.slice Ba (limbs (Rat.den p)).length ba]) rfl rfl rfl rfl rfl rfl (fun Y hY=>trivial) ?_;intro N1 w1 hE1 uf fF;have Co:=Pl.Cb.lt fF;have R5:=aS.size hE1;refine nC (z:=.agg #[.bool false,.slice none 0 0,.slice none 0 0]) (by kernel_rfl) rfl rfl rfl rfl (fun Y hY=>trivial) ?_;intro N2 w2 hE2 wQ dV;have Fj:=Pl.Cb.lt dV;have TJ:=aS.size hE2;replace dV:Pl.Cb w2 N2 36 [.bool false,.slice none 0 0,.slice none 0 0]:=dV;refine aT ?_;repeat refine bu ?_
 refine qc (S:=fun X=>aS w1 X) [(true,0,0),(true,1,1),(true,3,3),(true,4,11),(false,2,27),(true,5,31),(false,6,63)] fo gY (by kernel_rfl) (aS.trans hE2 (aS.drew _)) ?_;have fV:=aS.drew w2;generalize w2.drew=w3 at *;have TK:=aS.size fV;intro yJ;refine kK (A0a N1) yJ rfl rfl rfl rfl (fun X=>by kernel_rfl) ?_;refine Mc (part:=[.bool (decide ((Rat.num p)<0)),.slice Aa (limbs (Int.natAbs (Rat.num p))).length ca]) (fun X hX=>Pl.Cb.ex fF hX) rfl underlying34 rfl (by kernel_rfl) yJ rfl rfl rfl rfl rfl ?_;refine kK (.pointer (some ⟨N1,2,none⟩)) yJ rfl rfl rfl rfl (fun X=>by kernel_rfl) ?_;refine Qk (v:=.slice Ba (limbs (Rat.den p)).length ba) underlying24 rfl (fun X hX=>Pl.Cb.at (j:=2) (Pl.Cb.ex fF hX) rfl) yJ rfl rfl rfl rfl rfl<|dQ rfl rfl rfl rfl rfl (cZ rfl)<|Calls.mono (Ql _ _ (Rat.num p) (Zn.of (Un.below ua (aS.trans hE1 (aS.trans hE2 fV)))) (Sz.le za (by omega)) _ rfl) ?_;rintro e w4 ⟨v3,rfl,hv3,jI⟩;obtain ⟨A4,c5,rfl,u6⟩:=hv3;have U9:=aS.size jI;have vV:=aS.trans yJ jI;refine ⟨_,rfl,vV,?_⟩;refine kK (.agg #[.bool (decide ((-(Rat.num p))<0)),.slice A4 (limbs (Int.natAbs (-(Rat.num p)))).length c5,.slice Ba (limbs (Rat.den p)).length ba]) vV rfl rfl rfl rfl (fun X=>by kernel_rfl) ?_;refine l6 (new:=[.bool (decide ((-(Rat.num p))<0)),.slice A4 (limbs (Int.natAbs (-(Rat.num p)))).length c5,.slice Ba (limbs (Rat.den p)).length ba]) (Pl.Cb.ex dV (aS.trans fV jI)) (by kernel_rfl) rfl (by simp [Value.oneCell']) rfl rfl rfl rfl rfl rfl (fun Y hY=>aS.xs vV hY (by omega)) ?_;intro w5 zi oI;have nU:=aS.xs (aS.trans hE2 (aS.trans fV jI)) zi (by omega);have sz5:=Pl.Xs.size zi;have hS5:=aS.xs vV zi (by omega);refine aT ?_;have k7:=Un.xs u6 zi (Pl.Cb.ex dV (aS.trans fV jI)) (by simp);repeat refine bu ?_
 exact Pl.kJ rfl rfl oI underlying36 rfl (by kernel_rfl) (⟨_,rfl,Qn.of (q := -p) rfl rfl k7 (Un.below ta (aS.trans hE1 nU)) (Sz.neg za) ya,(aS.trans hE1 nU)⟩)
theorem mO (w:World) (va vb:Value) (p q:Rat) (L M L2 M2:Nat) (ha:Qn w va p L M) (hb:Qn w vb q L2 M2) (K N:Nat) (h1:L+M2+1≤K) (h2:L2+M+1≤K) (h3:M+M2≤N) (hK:K≤100) (hN:N≤100) :A0h 61 #[va,vb] w (p+q) K N:=by obtain ⟨Aa,ca,Ba,ba,rfl,ua,ta,za,ya⟩:=ha;obtain ⟨Ab,cb,Bb,bb,rfl,ub,tb,zb,yb⟩:=hb;refine aC (n:=26) [.a [.c 0 0,.c 0 1,.c 0 2],.a [.c 1 0,.c 1 1,.c 1 2]] [[_,_,_],[_,_,_]] [(0,(fG p L M).S),(1,(fG q L2 M2).S)] func61 rfl (by kernel_rfl) rfl rfl ⟨RS.in ⟨Aa,ca,Ba,ba,rfl,ua,ta,za,ya⟩,RS.in ⟨Ab,cb,Bb,bb,rfl,ub,tb,zb,yb⟩,trivial⟩ ?_;refine bP aa 1 0 rfl<|aQ none fo<|az aa 22 3 rfl<|ah 2 rfl (fun h=>bG 2 (bO _ _ (Rat.den q) (bL (h.r 1 rfl)).2.2.1))<|ah 3 rfl (fun h=>bG 3 (jZ _ _ _ (Rat.num p) (((Rat.den q):Nat):Int) (bL (h.r 0 rfl)).1 (h.r 2 rfl) (Sz.le za (by omega)) (Sz.le (Sn.sz yb) (by omega)) _ rfl)) ?_;refine az aa 22 3 rfl<|ah 4 rfl (fun h=>bG 4 (bO _ _ (Rat.den p) (bL (h.r 0 rfl)).2.2.1))<|ah 5 rfl (fun h=>bG 5 (jZ _ _ _ (Rat.num q) (((Rat.den p):Nat):Int) (bL (h.r 1 rfl)).1 (h.r 4 rfl) (Sz.le zb (by omega)) (Sz.le (Sn.sz ya) (by omega)) _ rfl)) ?_;refine ah 6 rfl (fun h=>bG 6 (LZ _ _ _ ((Rat.num p)*(((Rat.den q):Nat):Int)) ((Rat.num q)*(((Rat.den p):Nat):Int)) (h.r 3 rfl) (h.r 5 rfl) (Sz.le (Sz.mul za (Sn.sz yb) (by omega):Sz ((Rat.num p)*(((Rat.den q):Nat):Int)) (L+M2)) (by omega)) (Sz.le (Sz.mul zb (Sn.sz ya) (by omega):Sz ((Rat.num q)*(((Rat.den p):Nat):Int)) (L2+M)) (by omega)) _ rfl)) ?_;refine az aa 22 3 rfl<|ah 7 rfl (fun h=>bG 7 (bO _ _ (Rat.den p) (bL (h.r 0 rfl)).2.2.1))<|az aa 22 3 rfl<|ah 8 rfl (fun h=>bG 8 (bO _ _ (Rat.den q) (bL (h.r 1 rfl)).2.2.1))<|ah 9 rfl (fun h=>bG 9 (jZ _ _ _ (((Rat.den p):Nat):Int) (((Rat.den q):Nat):Int) (h.r 7 rfl) (h.r 8 rfl) (Sz.le (Sn.sz ya) (by omega)) (Sz.le (Sn.sz yb) (by omega)) _ rfl)) ?_;refine ah 10 rfl (fun h=>dH 10 (jv _ _ _ (((Rat.num p)*(((Rat.den q):Nat):Int))+((Rat.num q)*(((Rat.den p):Nat):Int))) ((((Rat.den p):Nat):Int)*(((Rat.den q):Nat):Int)) (p+q) (h.r 6 rfl) (h.r 9 rfl) (max (L+M2) (L2+M)+1) (M+M2) (Sz.add (Sz.mul za (Sn.sz yb) (by omega):Sz ((Rat.num p)*(((Rat.den q):Nat):Int)) (L+M2)) (Sz.mul zb (Sn.sz ya) (by omega):Sz ((Rat.num q)*(((Rat.den p):Nat):Int)) (L2+M)) (by omega) (by omega):Sz (((Rat.num p)*(((Rat.den q):Nat):Int))+((Rat.num q)*(((Rat.den p):Nat):Int))) (max (L+M2) (L2+M)+1)) (Sz.mul (Sn.sz ya) (Sn.sz yb) (by omega):Sz ((((Rat.den p):Nat):Int)*(((Rat.den q):Nat):Int)) (M+M2)) (by omega) (by omega) (Int.mul_ne_zero (show ((p.den:Nat):Int)≠0 by have:=p.den_pos;omega) (show ((q.den:Nat):Int)≠0 by have:=q.den_pos;omega)) (by rw [← Int.natCast_mul];exact Rq.Fa p q))) ?_;refine az aa 22 3 rfl<|aR (by kernel_rfl) ?_;exact jY [4] [2] [10] rfl rfl rfl<|aJ aa rfl (fun h=>⟨_,rfl,(Qn.le (h.r 10 rfl) (by omega) (by omega)),h.ex⟩)
theorem rG (w:World) (va vb:Value) (p q:Rat) (L M L2 M2:Nat) (ha:Qn w va p L M) (hb:Qn w vb q L2 M2) (K N:Nat) (h1:L+L2≤K) (h3:M+M2≤N) (hK:K≤100) (hN:N≤100) :A0h 98 #[va,vb] w (p*q) K N:=by obtain ⟨Aa,ca,Ba,ba,rfl,ua,ta,za,ya⟩:=ha;obtain ⟨Ab,cb,Bb,bb,rfl,ub,tb,zb,yb⟩:=hb;refine aC (n:=18) [.a [.c 0 0,.c 0 1,.c 0 2],.a [.c 1 0,.c 1 1,.c 1 2]] [[_,_,_],[_,_,_]] [(0,(fG p L M).S),(1,(fG q L2 M2).S)] func98 rfl (by kernel_rfl) rfl rfl ⟨RS.in ⟨Aa,ca,Ba,ba,rfl,ua,ta,za,ya⟩,RS.in ⟨Ab,cb,Bb,bb,rfl,ub,tb,zb,yb⟩,trivial⟩ ?_;refine bP aa 1 0 rfl<|aQ none fo<|az aa 14 3 rfl<|ah 2 rfl (fun h=>bG 2 (jZ _ _ _ (Rat.num p) (Rat.num q) (bL (h.r 0 rfl)).1 (bL (h.r 1 rfl)).1 (Sz.le za (by omega)) (Sz.le zb (by omega)) _ rfl)) ?_;refine az aa 14 3 rfl<|ah 3 rfl (fun h=>bG 3 (bO _ _ (Rat.den p) (bL (h.r 0 rfl)).2.2.1))<|az aa 14 3 rfl<|ah 4 rfl (fun h=>bG 4 (bO _ _ (Rat.den q) (bL (h.r 1 rfl)).2.2.1))<|ah 5 rfl (fun h=>bG 5 (jZ _ _ _ (((Rat.den p):Nat):Int) (((Rat.den q):Nat):Int) (h.r 3 rfl) (h.r 4 rfl) (Sz.le (Sn.sz ya) (by omega)) (Sz.le (Sn.sz yb) (by omega)) _ rfl)) ?_;refine ah 6 rfl (fun h=>dH 6 (jv _ _ _ ((Rat.num p)*(Rat.num q)) ((((Rat.den p):Nat):Int)*(((Rat.den q):Nat):Int)) (p*q) (h.r 2 rfl) (h.r 5 rfl) (L+L2) (M+M2) (Sz.mul za zb (by omega):Sz ((Rat.num p)*(Rat.num q)) (L+L2)) (Sz.mul (Sn.sz ya) (Sn.sz yb) (by omega):Sz ((((Rat.den p):Nat):Int)*(((Rat.den q):Nat):Int)) (M+M2)) (by omega) (by omega) (Int.mul_ne_zero (show ((p.den:Nat):Int)≠0 by have:=p.den_pos;omega) (show ((q.den:Nat):Int)≠0 by have:=q.den_pos;omega)) (by rw [← Int.natCast_mul];exact Rq.Fb p q))) ?_;refine az aa 14 3 rfl<|aR (by kernel_rfl) ?_;exact jY [4] [2] [6] rfl rfl rfl<|aJ aa rfl (fun h=>⟨_,rfl,(Qn.le (h.r 6 rfl) (by omega) (by omega)),h.ex⟩)
theorem mP (w:World) (va vb:Value) (p q:Rat) (L M L2 M2:Nat) (ha:Qn w va p L M) (hb:Qn w vb q L2 M2) (K N:Nat) (h1:L+M2+1≤K) (h2:L2+M+1≤K) (h3:M+M2≤N) (hK:K≤100) (hN:N≤100) :A0h 81 #[va,vb] w (p-q) K N:=by obtain ⟨Aa,ca,Ba,ba,rfl,ua,ta,za,ya⟩:=ha;obtain ⟨Ab,cb,Bb,bb,rfl,ub,tb,zb,yb⟩:=hb;refine aC (n:=9) [.a [.c 0 0,.c 0 1,.c 0 2],.a [.c 1 0,.c 1 1,.c 1 2]] [[_,_,_],[_,_,_]] [(0,(fG p L M).S),(1,(fG q L2 M2).S)] func81 rfl (by kernel_rfl) rfl rfl ⟨RS.in ⟨Aa,ca,Ba,ba,rfl,ua,ta,za,ya⟩,RS.in ⟨Ab,cb,Bb,bb,rfl,ub,tb,zb,yb⟩,trivial⟩ ?_;refine bP aa 1 0 rfl<|aQ none fo<|az aa 5 3 rfl<|ah 2 rfl (fun h=>dH 2 (lu _ _ q L2 M2 (h.r 1 rfl) (by omega))) ?_;refine ah 3 rfl (fun h=>dH 3 (mO _ _ _ p (-q) L M L2 M2 (h.r 0 rfl) (h.r 2 rfl) (max (L+M2) (L2+M)+1) (M+M2) (by omega) (by omega) (by omega) (by omega) (by omega))) ?_;refine az aa 5 3 rfl<|aR (by kernel_rfl) ?_;exact jY [4] [2] [3] rfl rfl rfl<|aJ aa rfl (fun h=>⟨_,rfl,by rw [Rat.sub_eq_add_neg];exact (Qn.le (h.r 3 rfl) (by omega) (by omega)),h.ex⟩)
theorem nW (w:World) (va:Value) (p:Rat) (L M:Nat) (ha:Qn w va p L M) (hL:L≤200) (hM:M≤200) :A0j 127 #[va] w p.floor:=by obtain ⟨Aa,ca,Ba,ba,rfl,ua,ta,za,ya⟩:=ha;refine aC (n:=17) [.a [.c 0 0,.c 0 1,.c 0 2]] [[_,_,_]] [(0,(fG p L M).S)] func127 rfl (by kernel_rfl) rfl rfl ⟨RS.in ⟨Aa,ca,Ba,ba,rfl,ua,ta,za,ya⟩,trivial⟩ ?_;refine bP aa 1 0 rfl<|aQ none fo<|az aa 15 2 rfl<|ah 1 rfl (fun h=>bG 1 (bO _ _ (Rat.den p) (bL (h.r 0 rfl)).2.2.1))<|ah (S:=P7 ((Rat.num p)/(((Rat.den p):Nat):Int))) (res:=.t [.a [.c 2 0,.c 2 1],.a [.c 2 2,.c 2 3],vI 0]) 2 rfl (fun h=>L8 2 (Em _ _ _ (Rat.num p) (((Rat.den p):Nat):Int) (bL (h.r 0 rfl)).1 (h.r 1 rfl) (Sz.le za (by omega)) (Sz.le (Sn.sz ya) (by omega)) (show ((p.den:Nat):Int)≠0 by have:=p.den_pos;omega) _ _ rfl rfl)) ?_;refine az aa 15 2 rfl<|aR (by kernel_rfl) ?_;exact jY [2,3] [1,2] [2] rfl rfl rfl<|bP aa 1 4 rfl<|aJ aa rfl (fun h=>⟨_,rfl,by rw [Rq.pM];exact h.r 2 rfl,h.ex⟩)
theorem wT (w:World) (va vb:Value) (n m k K:Nat) (hK:K≤1000) (ha:Un w va n) (hb:Un w vb m) (hn:(limbs n).length≤K) (hm:(limbs m).length≤K) (hk:n*m=k) :A0l 82 #[va,vb] w k:=by refine (jH w va vb _ _ _ _ ha hb rfl rfl (by omega) (by omega)).mono ?_;rw [aM,aM,hk];grind
theorem IM (K:Nat) (hK:K≤1000) (w:World) (va:Value) (a n:Nat) (hu:Un w va a) (h1:1≤a) (hal:(limbs a).length≤K) (hlim:(limbs (a^n)).length≤K) (hn:n≤100000) (k:Nat) (hk:a^n=k) :A0l 83 #[va,.int .i64 (n:Nat)] w k:=by
 subst hk;have HAL:Hid (∀ x,x=a→(limbs x).length≤K):=fun x e=>by rw [e];exact hal
 have YZ:Hid (∀ e,e≤n→(limbs (a^e)).length≤K):=fun e he=>Sn.down (n:=a^n) (K:=K) hlim (Nat.pow_le_pow_right h1 he);have HS:=Lib.hid (fun W va vb n m k=>wT W va vb n m k K hK);clear hlim h1 hK;obtain ⟨A,ca,rfl,hca⟩:=U.shape (U.gH hu);have hE0:=(Ext.refl w).alloc (.cells #[.int .u32 1] 57);have hone:Un (w.alloc (.cells #[.int .u32 1] 57)) (.slice (some ⟨w.heap.size,0,none⟩) 1 1) 1:=Ee w _ rfl 1 (by decide) (by decide);have hu1:Un (w.alloc (.cells #[.int .u32 1] 57)) (.slice A (limbs a).length ca) a:=U.below (U.gH hu) hE0;clear hal;generalize (limbs a).length=la at *;clear hu;go_enter func83,ntmps83;go_wp2;go_loopw [6,5] (fun t s wr=>∃ (j:Nat),j≤n∧t = .int .i64 (j:Nat)∧Un wr s (a^j)∧Un wr (.slice A la ca) a∧Ext w wr) (fun t _ _=>n-(intOf t).toNat);case atStart=>exact ⟨0,Nat.zero_le _,rfl,by rw [Nat.pow_zero];exact hone,hu1,hE0⟩
 case round =>
  clear hone hu1 hE0;obtain ⟨j,hj,rfl,hz,El,hE⟩:=hrel;obtain ⟨A2,c2,rfl,hcc⟩:=U.shape (U.gH hz);by_cases hlt:j<n
  · have hM:=Lib.hid (HS.out wr _ _ (a^j) a (a^(j+1)) hz El (YZ.out j hj) (HAL.out a rfl) (Nat.pow_succ a j).symm);generalize (limbs (a^j)).length=lz at *;clear hz;go_wp2_with (fail);refine hM.out.mono ?_;rintro e w2 ⟨u,rfl,hu2,hB⟩;replace El:=U.below (U.gH El) hB;replace hE:=hE.below hB;clear hM hB;go_wp2;go_roundw;case rel=>exact ⟨j+1,by omega,by go_num,hu2,El,hE⟩
    case measure=>simp [intOf];omega
  · obtain rfl:j=n:=(by omega);have HF:Hid (∃ u',Ending.returned (.slice A2 (limbs (a^j)).length c2) = .returned u'∧Un wr u' (a^j)∧Ext w wr):=⟨_,rfl,hz,hE⟩;clear hz hE;go_wp2;go_ret;exact HF.out
theorem pW {p q:Rat} {k:Int} (h:U8 p q k):k=fJ p q:=by
 obtain ⟨h1,h2,h3,h4,h5⟩:=h;unfold fJ;by_cases a:p<q
 · rw [if_pos a];have:=h3.2 a;omega
 · rw [if_neg a];by_cases b:q<p
   · rw [if_pos b];have:=h5.2 b;omega
   · rw [if_neg b];exact h4.2 (by grind)
theorem wU {q:Rat} {k:Int} (h:U6 q k):k=fJ q 0:=pW (p:=q) (q:=0) h
theorem jm {p q:Rat}:fJ p q≥0↔q≤p:=by unfold fJ;split<;>(try split)<;>grind
theorem bZ {p q:Rat}:fJ p q>0↔q<p:=by unfold fJ;split<;>(try split)<;>grind
theorem aV {p q:Rat}:fJ p q<0↔p<q:=by unfold fJ;split<;>(try split)<;>grind
theorem eH {p q:Rat}:fJ p q=0↔p=q:=by unfold fJ;split<;>(try split)<;>grind
theorem aG (w:World) (va vb:Value) (p q:Rat) (L M L2 M2:Nat) (ha:Qn w va p L M) (hb:Qn w vb q L2 M2) (hK:L+M2≤398) (hN:L2+M≤398) :Calls prog 32 #[va,vb] w fun e w'=>e = .returned (.int .i64 (fJ p q))∧aS w w' :=
 (rF w va vb p q L M L2 M2 ha hb hK hN).mono fun e w' ⟨k,h1,h2,h3⟩=>⟨by rw [h1,pW h2],h3⟩
theorem aK (w:World) (va:Value) (p:Rat) (L M:Nat) (ha:Qn w va p L M) (hL:L≤1000000) :Calls prog 33 #[va] w fun e w'=>e = .returned (.int .i64 (fJ p 0))∧aS w w' :=
 (pV w va p L M ha hL).mono fun e w' ⟨k,h1,h2,h3⟩=>⟨by rw [h1,wU h2],h3⟩
theorem Fw (p q:Rat):Rat.divInt (p.num*((q.den:Nat):Int)) (q.num*((p.den:Nat):Int))=p/q:=by rw [Rat.div_def];conv=>rhs;rw [← Rat.num_divInt_den p,← Rat.num_divInt_den q,Rat.inv_divInt,Rat.divInt_mul_divInt,Int.mul_comm ((p.den:Nat):Int)]
theorem rH {n:Nat} {neg:Bool} {K:Nat} (h:Sn n K):Sz (sg neg n) K:=by show (limbs (sg neg n).natAbs).length≤K;rw [sW];exact h
theorem IP {b:Nat} (hb:b=2∨b=10):Sn b 1:=Sn.of (by rcases hb with h | h<;>rw [h]<;>decide)
theorem rJ (b k:Nat):((((b^k:Nat):Int)):Rat)=bp b (k:Int):=(uX b k).symm
theorem Aw {b:Nat} (hb:2≤b) (q:Rat) (k:Nat):q/(((b^k:Nat):Int):Rat)=q*bp b (-(k:Int)):=by have h:=wJ hb (k:Int);have hn:=Aj hb (k:Int);rw [rJ,Rat.div_def];congr 1;rw [← Rat.mul_one (bp b (k:Int))⁻¹,← h,← Rat.mul_assoc,Rat.inv_mul_cancel _ hn,Rat.one_mul]
theorem Fx {b:Nat} (hb:2≤b) (k:Nat):((((b^k:Nat):Int)):Rat)≠0:=by rw [rJ];exact Aj hb _
theorem pX (w:World) (va vb:Value) (p q:Rat) (L M L2 M2:Nat) (ha:Qn w va p L M) (hb:Qn w vb q L2 M2) (K N:Nat) (h1:L+M2≤K) (h2:L2+M≤N) (hK:K≤100) (hN:N≤100) (hq0:q≠0) :Calls prog 99 #[va,vb] w fun e w'=>∃ u,e = .returned (.tuple #[u,.int .i64 0])∧Qn w' u (p/q) K N∧aS w w':=by obtain ⟨Aa,ca,Ba,ba,rfl,ua,ta,za,ya⟩:=ha;obtain ⟨Ab,cb,Bb,bb,rfl,ub,tb,zb,yb⟩:=hb;have hdp:=p.den_pos;have hqn:q.num≠0:=fun h=>hq0 (Rat.num_eq_zero.1 h);refine aC (n:=26) [.a [.c 0 0,.c 0 1,.c 0 2],.a [.c 1 0,.c 1 1,.c 1 2]] [[_,_,_],[_,_,_]] [(0,(fG p L M).S),(1,(fG q L2 M2).S)] func99 rfl (by kernel_rfl) rfl rfl ⟨RS.in ⟨Aa,ca,Ba,ba,rfl,ua,ta,za,ya⟩,RS.in ⟨Ab,cb,Bb,bb,rfl,ub,tb,zb,yb⟩,trivial⟩ ?_;refine bP aa 1 0 rfl<|aQ none fo<|az aa 19 3 rfl<|ah 2 rfl (fun h=>bG 2 (bO _ _ (Rat.den q) (bL (h.r 1 rfl)).2.2.1))<|ah 3 rfl (fun h=>bG 3 (jZ _ _ _ (Rat.num p) (((Rat.den q):Nat):Int) (bL (h.r 0 rfl)).1 (h.r 2 rfl) (Sz.le za (by omega)) (Sz.le (Sn.sz yb) (by omega)) _ rfl)) ?_;refine az aa 19 3 rfl<|ah 4 rfl (fun h=>bG 4 (bO _ _ (Rat.den p) (bL (h.r 0 rfl)).2.2.1))<|ah 5 rfl (fun h=>bG 5 (jZ _ _ _ (Rat.num q) (((Rat.den p):Nat):Int) (bL (h.r 1 rfl)).1 (h.r 4 rfl) (Sz.le zb (by omega)) (Sz.le (Sn.sz ya) (by omega)) _ rfl)) ?_;refine ah (S:=fG (Rat.divInt ((Rat.num p)*(((Rat.den q):Nat):Int)) ((Rat.num q)*(((Rat.den p):Nat):Int))) (L+M2) (L2+M)) (res:=.t [.a [.c 6 0,.c 6 1,.c 6 2],vI 0]) 6 rfl (fun h=>eX 6 (bz _ _ _ ((Rat.num p)*(((Rat.den q):Nat):Int)) ((Rat.num q)*(((Rat.den p):Nat):Int)) (h.r 3 rfl) (h.r 5 rfl) (L+M2) (L2+M) (Sz.mul za (Sn.sz yb) (by omega):Sz ((Rat.num p)*(((Rat.den q):Nat):Int)) (L+M2)) (Sz.mul zb (Sn.sz ya) (by omega):Sz ((Rat.num q)*(((Rat.den p):Nat):Int)) (L2+M)) (by omega) (by omega) (Int.mul_ne_zero hqn (by omega)))) ?_;refine az aa 19 3 rfl<|aR (by kernel_rfl) ?_;exact aU [4,5,6,7] [2,3] [6] rfl<|bP aa 1 4 rfl<|aJ aa rfl (fun h=>⟨_,rfl,by rw [← Fw];exact Qn.le (h.r 6 rfl) (by omega) (by omega),h.ex⟩)
theorem aX (w:World) (b p k:Nat) (lo hi z:Int) (hb:b=2∨b=10) (hz:z=((k:Nat):Int)) (hk:k≤303) :A0i 36 #[A0b b p lo hi,.int .i64 z] w (b^k):=by
 have hb2:2≤b∧b≤10:=by omega
 have hpk:b^k=b^k:=rfl;subst hz;refine aC (n:=11) [A0d b p lo hi,vI ((k:Nat):Int)] [] [] func36 rfl (by kernel_rfl) rfl rfl trivial ?_;refine aD aa 1 0 rfl<|IK ((b:Nat):Int) underlying57 (by kernel_rfl) (Pl.w32 (by omega) (by omega)) rfl rfl rfl rfl rfl ?_;refine lD (e := 57) (m:=1) [.int .u32 ((b:Nat):Int)] 0 (bW b) rfl rfl rfl (fun _ _=>rfl) (fun α γ X=>by kernel_rfl) rfl (fun N w k=>Un.one (x:=b) k rfl (by omega)) ?_;refine aF aa 1 rfl<|ak 1 rfl (fun h=>dh 1 (IM 78 (by decide) _ _ b k (h.r 0 rfl) (by omega) (Nat.le_trans (IP hb) (by decide)) (Nat.le_trans (bg hb (by omega):Sn (b^k) 38) (by decide)) (by omega) _ rfl)) ?_;exact aL aa 0 1 rfl<|aJ aa rfl (fun h=>⟨_,rfl,h.r 1 rfl,h.ex⟩)
theorem wV (w:World) (p:Nat) (lo hi:Int) (hf:gV 2 p lo hi) :A0f 14 #[.agg #[.int .i64 2,.int .i64 ((p:Nat):Int),.int .i64 lo,.int .i64 hi]] w (.bool true):=by have f1:=hf.p1;have f2:=hf.jM;have f3:=hf.l;have f4:=hf.l1;have f5:=hf.h1;refine aC (n:=38) [.a [vI 2,vI ((p:Nat):Int),vI lo,vI hi]] [] [] func14 rfl (by kernel_rfl) rfl rfl trivial ?_;refine aD aa 1 0 rfl<|aj (aI (by decide)) rfl ?_;refine aF aa 1 rfl<|aj (dD (by omega)) rfl ?_;refine aF aa 1 rfl<|aj (fE (by omega)) rfl ?_;refine aF aa 1 rfl<|aj (fE (by omega)) rfl ?_;refine aF aa 1 rfl<|aj (dD (by omega)) rfl ?_;refine aF aa 1 rfl<|aj (fE (by omega)) rfl ?_;exact aL aa 0 1 rfl<|aJ aa rfl (fun h=>⟨rfl,h.ex⟩)
theorem uh (w:World) (p:Nat) (lo hi:Int) (hf:gV 10 p lo hi) :A0f 14 #[.agg #[.int .i64 10,.int .i64 ((p:Nat):Int),.int .i64 lo,.int .i64 hi]] w (.bool true):=by have f1:=hf.p1;have f2:=hf.jM;have f3:=hf.l;have f4:=hf.l1;have f5:=hf.h1;refine aC (n:=38) [.a [vI 10,vI ((p:Nat):Int),vI lo,vI hi]] [] [] func14 rfl (by kernel_rfl) rfl rfl trivial ?_;refine aD aa 1 0 rfl<|aj (aA (by decide)) rfl ?_;refine aF aa 1 rfl<|aj (aI (by decide)) rfl ?_;refine aF aa 1 rfl<|aj (dD (by omega)) rfl ?_;refine aF aa 1 rfl<|aj (fE (by omega)) rfl ?_;refine aF aa 1 rfl<|aj (fE (by omega)) rfl ?_;refine aF aa 1 rfl<|aj (dD (by omega)) rfl ?_;refine aF aa 1 rfl<|aj (fE (by omega)) rfl ?_;exact aL aa 0 1 rfl<|aJ aa rfl (fun h=>⟨rfl,h.ex⟩)
theorem dK (w:World) (b p:Nat) (lo hi:Int) (hf:gV b p lo hi) :A0f 14 #[A0b b p lo hi] w (.bool true):=by
 rcases hf.r with rfl | rfl
 · exact wV w p lo hi hf
 · exact uh w p lo hi hf
theorem wW (w:World) (va:Value) (q:Rat) (L M:Nat) (ha:Qn w va q L M) (b p:Nat) (lo hi:Int) (hf:gV b p lo hi) (n:Int) (J:Nat) (hn:n.natAbs<8*J) (hJ:J≤38) (hL:L≤60) (hM:M≤60) (h0:0≤n) :A0h 53 #[va,A0b b p lo hi,.int .i64 n] w (q*bp b n) (L+J) (M+J):=by obtain ⟨Aa,ca,Ba,ba,rfl,ua,ta,za,ya⟩:=ha;have f1:=hf.p1;have f2:=hf.jM;have f3:=hf.l;have f4:=hf.l1;have f5:=hf.h1;have hb2:=hf.b2;obtain ⟨k,rfl⟩:∃ k:Nat,n=(k:Int):=⟨n.toNat,by omega⟩;refine aC (n:=30) [.a [.c 0 0,.c 0 1,.c 0 2],A0d b p lo hi,vI ((k:Nat):Int)] [[_,_,_]] [(0,(fG q L M).S)] func53 rfl (by kernel_rfl) rfl rfl ⟨RS.in ⟨Aa,ca,Ba,ba,rfl,ua,ta,za,ya⟩,trivial⟩ ?_;refine aD aa 1 0 rfl<|aj (dD (by omega)) rfl ?_;refine aL aa 1 0 rfl<|aQ none fo<|az aa 8 3 rfl<|ah 1 rfl (fun _=>dh 1 (aX _ b p k lo hi _ hf.r rfl (by omega))) ?_;refine ah 2 rfl (fun h=>bG 2 (fP _ false _ (limbs (b^k)) (h.r 1 rfl) (Nat.le_trans (bg hf.r (by omega):Sn (b^k) J) (by omega)) _ (aM _) (((b^k):Nat):Int) rfl)) ?_;refine ah 3 rfl (fun h=>dH 3 (cO _ _ (((b^k):Nat):Int) J (h.r 2 rfl) (Sn.sz (bg hf.r (by omega):Sn (b^k) J)))) ?_;refine ah 4 rfl (fun h=>dH 4 (rG _ _ _ q (((((b^k):Nat):Int):Int):Rat) L M J 1 (h.r 0 rfl) (h.r 3 rfl) (L+J) (M+1) (by omega) (by omega) (by omega) (by omega))) ?_;refine az aa 8 3 rfl<|aR (by kernel_rfl) ?_;exact aU [2,3,4,6] [0,1,2] [0,4] rfl<|aJ aa rfl (fun h=>⟨_,rfl,by rw [← rJ];exact Qn.le (h.r 4 rfl) (by omega) (by omega),h.ex⟩)
theorem wX (w:World) (va:Value) (q:Rat) (L M:Nat) (ha:Qn w va q L M) (b p:Nat) (lo hi:Int) (hf:gV b p lo hi) (n:Int) (J:Nat) (hn:n.natAbs<8*J) (hJ:J≤38) (hL:L≤60) (hM:M≤60) (h0:n<0) :A0h 53 #[va,A0b b p lo hi,.int .i64 n] w (q*bp b n) (L+J) (M+J):=by obtain ⟨Aa,ca,Ba,ba,rfl,ua,ta,za,ya⟩:=ha;have f1:=hf.p1;have f2:=hf.jM;have f3:=hf.l;have f4:=hf.l1;have f5:=hf.h1;have hb2:=hf.b2;obtain ⟨k,rfl⟩:∃ k:Nat,n = -(k:Int):=⟨(-n).toNat,by omega⟩;refine aC (n:=30) [.a [.c 0 0,.c 0 1,.c 0 2],A0d b p lo hi,vI (-((k:Nat):Int))] [[_,_,_]] [(0,(fG q L M).S)] func53 rfl (by kernel_rfl) rfl rfl ⟨RS.in ⟨Aa,ca,Ba,ba,rfl,ua,ta,za,ya⟩,trivial⟩ ?_;refine aD aa 1 0 rfl<|aj (dN (by omega)) rfl ?_;refine aL aa 2 0 rfl<|aQ none fo<|az aa 14 3 rfl<|dY (.int .i64 ((k:Nat):Int)) rfl rfl rfl rfl rfl rfl rfl (fun X=>(jD (by omega) X).trans (by rw [Int.neg_neg])) ?_;refine ah 1 rfl (fun _=>dh 1 (aX _ b p k lo hi _ hf.r rfl (by omega))) ?_;refine ah 2 rfl (fun h=>bG 2 (fP _ false _ (limbs (b^k)) (h.r 1 rfl) (Nat.le_trans (bg hf.r (by omega):Sn (b^k) J) (by omega)) _ (aM _) (((b^k):Nat):Int) rfl)) ?_;refine ah 3 rfl (fun h=>dH 3 (cO _ _ (((b^k):Nat):Int) J (h.r 2 rfl) (Sn.sz (bg hf.r (by omega):Sn (b^k) J)))) ?_;refine ah (S:=fG (q/(((((b^k):Nat):Int):Int):Rat)) (L+1) (J+M)) (res:=.t [.a [.c 4 0,.c 4 1,.c 4 2],vI 0]) 4 rfl (fun h=>eX 4 (pX _ _ _ q (((((b^k):Nat):Int):Int):Rat) L M J 1 (h.r 0 rfl) (h.r 3 rfl) (L+1) (J+M) (by omega) (by omega) (by omega) (by omega) (Fx hb2 k))) ?_;refine az aa 14 3 rfl<|aR (by kernel_rfl) ?_;exact aU [6,7] [2,3] [4] rfl<|bP aa 1 4 rfl<|aJ aa rfl (fun h=>⟨_,rfl,by rw [← Aw hb2];exact Qn.le (h.r 4 rfl) (by omega) (by omega),h.ex⟩)
theorem dw (w:World) (va:Value) (q:Rat) (L M:Nat) (ha:Qn w va q L M) (b p:Nat) (lo hi:Int) (hf:gV b p lo hi) (n:Int) (J:Nat) (hn:n.natAbs<8*J) (hJ:J≤38) (hL:L≤60) (hM:M≤60) :A0h 53 #[va,A0b b p lo hi,.int .i64 n] w (q*bp b n) (L+J) (M+J):=by
 by_cases h:0≤n
 · exact wW w va q L M ha b p lo hi hf n J hn hJ hL hM h
 · exact wX w va q L M ha b p lo hi hf n J hn hJ hL hM (by omega)
def Vb (m:Nat) (q:Rat) (L M:Nat):RS:=⟨fun w f=>Un w (f 0) m∧Qn w (.agg #[f 1,f 2,f 3]) q L M,fun ⟨u,⟨A,c,B,b,e,u1,t,z,y⟩⟩ hs hk=>⟨ji u hs hk,⟨A,c,B,b,e,ji u1 hs hk,ji t hs hk,z,y⟩⟩⟩
theorem Dr {P:Program} {f:FuncId} {args:Array Value} {w:World} {α:Env} {γ:l7} {m:Nat} {q:Rat} {L M:Nat} (g:Nat) (h:Calls P f args w (fun e w'=>∃ u v,e = .returned (.tuple #[u,v])∧Un w' u m∧Qn w' v q L M∧aS w w')) :Calls P f args w (fun e w'=>∃ F,(∀ k,Rf.bU (F k)=true)∧e = .returned (den α (upd γ g F) (.t [.c g 0,.a [.c g 1,.c g 2,.c g 3]]))∧(Vb m q L M).R w' F∧aS w w'):=Calls.mono h fun e w' ⟨u,v,he,hu,⟨A,c,B,b,hv,hU,hT,hz,hy⟩,hE⟩=>by obtain ⟨C,d,hc⟩:=Un.jr hu;subst hc hv he;refine ⟨tK [.slice C (limbs m).length d,.bool (decide (q.num<0)),.slice A (limbs q.num.natAbs).length c,.slice B (limbs q.den).length b],fA rfl,?_,⟨hu,A,c,B,b,rfl,hU,hT,hz,hy⟩,hE⟩;simp only [den,dU,upd_same];rfl
theorem iM:Rat.divInt 1 2=1/2:=by rw [Rat.divInt_eq_div];rfl
theorem xx:Rat.divInt 1 3=1/3:=by rw [Rat.divInt_eq_div];rfl
theorem Fy {n o:Bool} {r:Rat}:eO 0 n o r=(decide (1/2<r)||decide (r=1/2)&&o):=by unfold eO;simp
theorem Md {n o:Bool} {r:Rat}:eO 1 n o r=decide (1/2≤r):=by unfold eO;simp
theorem Me {n o:Bool} {r:Rat}:eO 3 n o r=(!n&&decide (0<r)):=by unfold eO;simp
theorem Mf {n o:Bool} {r:Rat}:eO 4 n o r=(n&&decide (0<r)):=by unfold eO;simp
theorem Mg {n o:Bool} {r:Rat}:eO 2 n o r=false:=by unfold eO;simp
theorem j5 (w:World) (va:Value) (q:Rat) (L M:Nat) (ha:Qn w va q L M) (K N:Nat) (h1:L+M+2≤K) (h2:M+1≤N) (hK:K≤100) (hN:N≤100) :Calls prog 75 #[va] w fun e w'=>∃ u v,e = .returned (.tuple #[u,v])∧Un w' u (Int.natAbs (Rat.floor q))∧Qn w' v (q-((Rat.floor q:Int):Rat)) K N∧aS w w':=by obtain ⟨Aa,ca,Ba,ba,rfl,ua,ta,za,ya⟩:=ha;refine aC (n:=13) [.a [.c 0 0,.c 0 1,.c 0 2]] [[_,_,_]] [(0,(fG q L M).S)] func75 rfl (by kernel_rfl) rfl rfl ⟨RS.in ⟨Aa,ca,Ba,ba,rfl,ua,ta,za,ya⟩,trivial⟩ ?_;refine aD aa 1 0 rfl<|ak 1 rfl (fun h=>bG 1 (nW _ _ q L M (h.r 0 rfl) (by omega) (by omega))) ?_;refine aL aa 0 2 rfl<|aQ none fo<|az aa 8 3 rfl<|ah 2 rfl (fun h=>dH 2 (cO _ _ (Rat.floor q) L (h.r 1 rfl) (wS za)))<|ah 3 rfl (fun h=>dH 3 (mP _ _ _ q ((Rat.floor q:Int):Rat) L M L 1 (h.r 0 rfl) (h.r 2 rfl) (L+M+2) (M+1) (by omega) (by omega) (by omega) (by omega) (by omega))) ?_;refine az aa 8 3 rfl<|aR (by kernel_rfl) ?_;exact aU [2,3] [1] [1,3] rfl<|aJ aa rfl (fun h=>⟨_,_,rfl,EL (h.r 1 rfl),Qn.le (h.r 3 rfl) (by omega) (by omega),h.ex⟩)
theorem AA (w:World) (va:Value) (r:Rat) (L M:Nat) (ha:Qn w va r L M) (o:Bool) (hL:L≤300) (hM:M≤300) (n:Bool) (h1:1/2<r) :A0f 76 #[.int .i64 0,.bool n,.bool o,va] w (.bool (eO 0 n o r)):=by obtain ⟨Aa,ca,Ba,ba,rfl,ua,ta,za,ya⟩:=ha;refine aC (n:=49) [vI 0,vB n,vB o,.a [.c 0 0,.c 0 1,.c 0 2]] [[_,_,_]] [(0,(fG r L M).S)] func76 rfl (by kernel_rfl) rfl rfl ⟨RS.in ⟨Aa,ca,Ba,ba,rfl,ua,ta,za,ya⟩,trivial⟩ ?_;refine aD aa 1 0 rfl<|ak 1 rfl (fun _=>bG 1 (gQ _ 1 (by decide) (by decide))) ?_;refine ak 2 rfl (fun _=>bG 2 (gQ _ 2 (by decide) (by decide))) ?_;refine ak (S:=fG (Rat.divInt 1 2) 1 1) (res:=.t [.a [.c 3 0,.c 3 1,.c 3 2],vI 0]) 3 rfl (fun h=>eX 3 (bz _ _ _ 1 2 (h.r 1 rfl) (h.r 2 rfl) 1 1 (Sz.lit (K:=1) (by decide) (by decide)) (Sz.lit (K:=1) (by decide) (by decide)) (by omega) (by omega) (by omega))) ?_;refine ay aa 0 1 rfl<|ak 4 rfl (fun h=>aH 4 (aG _ _ _ r (Rat.divInt 1 2) L M 1 1 (h.r 0 rfl) (h.r 3 rfl) (by omega) (by omega))) ?_;refine ay aa 0 2 rfl<|aj (aI (by decide)) rfl ?_;exact ay aa 1 2 rfl<|aj (iF (bZ.2 (iM ▸ h1))) rfl<|aL aa 0 2 rfl<|aJ aa rfl (fun h=>⟨by rw [Fy,decide_eq_true h1]<;>(cases o<;>rfl),h.ex⟩)
theorem AB (w:World) (va:Value) (r:Rat) (L M:Nat) (ha:Qn w va r L M) (o:Bool) (hL:L≤300) (hM:M≤300) (n:Bool) (h1:r=1/2) :A0f 76 #[.int .i64 0,.bool n,.bool o,va] w (.bool (eO 0 n o r)):=by obtain ⟨Aa,ca,Ba,ba,rfl,ua,ta,za,ya⟩:=ha;refine aC (n:=49) [vI 0,vB n,vB o,.a [.c 0 0,.c 0 1,.c 0 2]] [[_,_,_]] [(0,(fG r L M).S)] func76 rfl (by kernel_rfl) rfl rfl ⟨RS.in ⟨Aa,ca,Ba,ba,rfl,ua,ta,za,ya⟩,trivial⟩ ?_;refine aD aa 1 0 rfl<|ak 1 rfl (fun _=>bG 1 (gQ _ 1 (by decide) (by decide))) ?_;refine ak 2 rfl (fun _=>bG 2 (gQ _ 2 (by decide) (by decide))) ?_;refine ak (S:=fG (Rat.divInt 1 2) 1 1) (res:=.t [.a [.c 3 0,.c 3 1,.c 3 2],vI 0]) 3 rfl (fun h=>eX 3 (bz _ _ _ 1 2 (h.r 1 rfl) (h.r 2 rfl) 1 1 (Sz.lit (K:=1) (by decide) (by decide)) (Sz.lit (K:=1) (by decide) (by decide)) (by omega) (by omega) (by omega))) ?_;refine ay aa 0 1 rfl<|ak 4 rfl (fun h=>aH 4 (aG _ _ _ r (Rat.divInt 1 2) L M 1 1 (h.r 0 rfl) (h.r 3 rfl) (by omega) (by omega))) ?_;refine ay aa 0 2 rfl<|aj (aI (by decide)) rfl ?_;refine ay aa 1 2 rfl<|aj (aY (fun h=>by have h9:=bZ.1 h;rw [iM] at h9;grind)) rfl ?_;exact aF aa 2 rfl<|aj (aI (eH.2 (iM ▸ h1))) rfl<|aL aa 0 2 rfl<|aJ aa rfl (fun h=>⟨by rw [Fy,h1,decide_eq_false (show ¬ (1/2:Rat)<1/2 by grind),decide_eq_true rfl]<;>(cases o<;>rfl),h.ex⟩)
theorem AJ (w:World) (va:Value) (r:Rat) (L M:Nat) (ha:Qn w va r L M) (o:Bool) (hL:L≤300) (hM:M≤300) (n:Bool) (h1:r<1/2) :A0f 76 #[.int .i64 0,.bool n,.bool o,va] w (.bool (eO 0 n o r)):=by obtain ⟨Aa,ca,Ba,ba,rfl,ua,ta,za,ya⟩:=ha;refine aC (n:=49) [vI 0,vB n,vB o,.a [.c 0 0,.c 0 1,.c 0 2]] [[_,_,_]] [(0,(fG r L M).S)] func76 rfl (by kernel_rfl) rfl rfl ⟨RS.in ⟨Aa,ca,Ba,ba,rfl,ua,ta,za,ya⟩,trivial⟩ ?_;refine aD aa 1 0 rfl<|ak 1 rfl (fun _=>bG 1 (gQ _ 1 (by decide) (by decide))) ?_;refine ak 2 rfl (fun _=>bG 2 (gQ _ 2 (by decide) (by decide))) ?_;refine ak (S:=fG (Rat.divInt 1 2) 1 1) (res:=.t [.a [.c 3 0,.c 3 1,.c 3 2],vI 0]) 3 rfl (fun h=>eX 3 (bz _ _ _ 1 2 (h.r 1 rfl) (h.r 2 rfl) 1 1 (Sz.lit (K:=1) (by decide) (by decide)) (Sz.lit (K:=1) (by decide) (by decide)) (by omega) (by omega) (by omega))) ?_;refine ay aa 0 1 rfl<|ak 4 rfl (fun h=>aH 4 (aG _ _ _ r (Rat.divInt 1 2) L M 1 1 (h.r 0 rfl) (h.r 3 rfl) (by omega) (by omega))) ?_;refine ay aa 0 2 rfl<|aj (aI (by decide)) rfl ?_;refine ay aa 1 2 rfl<|aj (aY (fun h=>by have h9:=bZ.1 h;rw [iM] at h9;grind)) rfl ?_;refine aF aa 2 rfl<|aj (aA (fun h=>by have h9:=eH.1 h;rw [iM] at h9;grind)) rfl ?_;exact aL aa 0 2 rfl<|aJ aa rfl (fun h=>⟨by rw [Fy,decide_eq_false (show ¬ (1/2:Rat)<r by grind),decide_eq_false (show ¬ r=(1/2:Rat) by grind)]<;>(cases o<;>rfl),h.ex⟩)
theorem AL (w:World) (va:Value) (r:Rat) (L M:Nat) (ha:Qn w va r L M) (o:Bool) (hL:L≤300) (hM:M≤300) (n:Bool) (h1:1/2≤r) :A0f 76 #[.int .i64 1,.bool n,.bool o,va] w (.bool (eO 1 n o r)):=by obtain ⟨Aa,ca,Ba,ba,rfl,ua,ta,za,ya⟩:=ha;refine aC (n:=49) [vI 1,vB n,vB o,.a [.c 0 0,.c 0 1,.c 0 2]] [[_,_,_]] [(0,(fG r L M).S)] func76 rfl (by kernel_rfl) rfl rfl ⟨RS.in ⟨Aa,ca,Ba,ba,rfl,ua,ta,za,ya⟩,trivial⟩ ?_;refine aD aa 1 0 rfl<|ak 1 rfl (fun _=>bG 1 (gQ _ 1 (by decide) (by decide))) ?_;refine ak 2 rfl (fun _=>bG 2 (gQ _ 2 (by decide) (by decide))) ?_;refine ak (S:=fG (Rat.divInt 1 2) 1 1) (res:=.t [.a [.c 3 0,.c 3 1,.c 3 2],vI 0]) 3 rfl (fun h=>eX 3 (bz _ _ _ 1 2 (h.r 1 rfl) (h.r 2 rfl) 1 1 (Sz.lit (K:=1) (by decide) (by decide)) (Sz.lit (K:=1) (by decide) (by decide)) (by omega) (by omega) (by omega))) ?_;refine ay aa 0 1 rfl<|ak 4 rfl (fun h=>aH 4 (aG _ _ _ r (Rat.divInt 1 2) L M 1 1 (h.r 0 rfl) (h.r 3 rfl) (by omega) (by omega))) ?_;refine ay aa 0 2 rfl<|aj (aA (by decide)) rfl ?_;refine ay aa 2 2 rfl<|aj (aI (by decide)) rfl ?_;exact ay aa 1 2 rfl<|aj (dD (jm.2 (iM ▸ h1))) rfl<|aL aa 0 2 rfl<|aJ aa rfl (fun h=>⟨by rw [Md,decide_eq_true h1]<;>(cases o<;>rfl),h.ex⟩)
theorem AO (w:World) (va:Value) (r:Rat) (L M:Nat) (ha:Qn w va r L M) (o:Bool) (hL:L≤300) (hM:M≤300) (n:Bool) (h1:¬ 1/2≤r) :A0f 76 #[.int .i64 1,.bool n,.bool o,va] w (.bool (eO 1 n o r)):=by obtain ⟨Aa,ca,Ba,ba,rfl,ua,ta,za,ya⟩:=ha;refine aC (n:=49) [vI 1,vB n,vB o,.a [.c 0 0,.c 0 1,.c 0 2]] [[_,_,_]] [(0,(fG r L M).S)] func76 rfl (by kernel_rfl) rfl rfl ⟨RS.in ⟨Aa,ca,Ba,ba,rfl,ua,ta,za,ya⟩,trivial⟩ ?_;refine aD aa 1 0 rfl<|ak 1 rfl (fun _=>bG 1 (gQ _ 1 (by decide) (by decide))) ?_;refine ak 2 rfl (fun _=>bG 2 (gQ _ 2 (by decide) (by decide))) ?_;refine ak (S:=fG (Rat.divInt 1 2) 1 1) (res:=.t [.a [.c 3 0,.c 3 1,.c 3 2],vI 0]) 3 rfl (fun h=>eX 3 (bz _ _ _ 1 2 (h.r 1 rfl) (h.r 2 rfl) 1 1 (Sz.lit (K:=1) (by decide) (by decide)) (Sz.lit (K:=1) (by decide) (by decide)) (by omega) (by omega) (by omega))) ?_;refine ay aa 0 1 rfl<|ak 4 rfl (fun h=>aH 4 (aG _ _ _ r (Rat.divInt 1 2) L M 1 1 (h.r 0 rfl) (h.r 3 rfl) (by omega) (by omega))) ?_;refine ay aa 0 2 rfl<|aj (aA (by decide)) rfl ?_;refine ay aa 2 2 rfl<|aj (aI (by decide)) rfl ?_;exact ay aa 1 2 rfl<|aj (dN (fun h=>h1 (iM ▸ jm.1 h))) rfl<|aL aa 0 2 rfl<|aJ aa rfl (fun h=>⟨by rw [Md,decide_eq_false h1]<;>(cases o<;>rfl),h.ex⟩)
theorem Fz (w:World) (va:Value) (r:Rat) (L M:Nat) (ha:Qn w va r L M) (o:Bool) (hL:L≤300) (hM:M≤300) :A0f 76 #[.int .i64 2,.bool false,.bool o,va] w (.bool (eO 2 false o r)):=by obtain ⟨Aa,ca,Ba,ba,rfl,ua,ta,za,ya⟩:=ha;refine aC (n:=49) [vI 2,vF,vB o,.a [.c 0 0,.c 0 1,.c 0 2]] [[_,_,_]] [(0,(fG r L M).S)] func76 rfl (by kernel_rfl) rfl rfl ⟨RS.in ⟨Aa,ca,Ba,ba,rfl,ua,ta,za,ya⟩,trivial⟩ ?_;refine aD aa 1 0 rfl<|ak 1 rfl (fun _=>bG 1 (gQ _ 1 (by decide) (by decide))) ?_;refine ak 2 rfl (fun _=>bG 2 (gQ _ 2 (by decide) (by decide))) ?_;refine ak (S:=fG (Rat.divInt 1 2) 1 1) (res:=.t [.a [.c 3 0,.c 3 1,.c 3 2],vI 0]) 3 rfl (fun h=>eX 3 (bz _ _ _ 1 2 (h.r 1 rfl) (h.r 2 rfl) 1 1 (Sz.lit (K:=1) (by decide) (by decide)) (Sz.lit (K:=1) (by decide) (by decide)) (by omega) (by omega) (by omega))) ?_;refine ay aa 0 1 rfl<|ak 4 rfl (fun h=>aH 4 (aG _ _ _ r (Rat.divInt 1 2) L M 1 1 (h.r 0 rfl) (h.r 3 rfl) (by omega) (by omega))) ?_;refine ay aa 0 2 rfl<|aj (aA (by decide)) rfl ?_;refine ay aa 2 2 rfl<|aj (aA (by decide)) rfl ?_;refine ay aa 2 2 rfl<|aj (aA (by decide)) rfl ?_;refine aF aa 2 rfl<|aj (aA (by decide)) rfl ?_;exact aL aa 0 2 rfl<|aJ aa rfl (fun h=>⟨by rw [Mg]<;>(cases o<;>rfl),h.ex⟩)
theorem AP (w:World) (va:Value) (r:Rat) (L M:Nat) (ha:Qn w va r L M) (o:Bool) (hL:L≤300) (hM:M≤300) :A0f 76 #[.int .i64 2,.bool true,.bool o,va] w (.bool (eO 2 true o r)):=by obtain ⟨Aa,ca,Ba,ba,rfl,ua,ta,za,ya⟩:=ha;refine aC (n:=49) [vI 2,vT,vB o,.a [.c 0 0,.c 0 1,.c 0 2]] [[_,_,_]] [(0,(fG r L M).S)] func76 rfl (by kernel_rfl) rfl rfl ⟨RS.in ⟨Aa,ca,Ba,ba,rfl,ua,ta,za,ya⟩,trivial⟩ ?_;refine aD aa 1 0 rfl<|ak 1 rfl (fun _=>bG 1 (gQ _ 1 (by decide) (by decide))) ?_;refine ak 2 rfl (fun _=>bG 2 (gQ _ 2 (by decide) (by decide))) ?_;refine ak (S:=fG (Rat.divInt 1 2) 1 1) (res:=.t [.a [.c 3 0,.c 3 1,.c 3 2],vI 0]) 3 rfl (fun h=>eX 3 (bz _ _ _ 1 2 (h.r 1 rfl) (h.r 2 rfl) 1 1 (Sz.lit (K:=1) (by decide) (by decide)) (Sz.lit (K:=1) (by decide) (by decide)) (by omega) (by omega) (by omega))) ?_;refine ay aa 0 1 rfl<|ak 4 rfl (fun h=>aH 4 (aG _ _ _ r (Rat.divInt 1 2) L M 1 1 (h.r 0 rfl) (h.r 3 rfl) (by omega) (by omega))) ?_;refine ay aa 0 2 rfl<|aj (aA (by decide)) rfl ?_;refine ay aa 2 2 rfl<|aj (aA (by decide)) rfl ?_;refine ay aa 2 2 rfl<|aj (aA (by decide)) rfl ?_;refine aF aa 2 rfl<|aj (aA (by decide)) rfl ?_;exact aL aa 0 2 rfl<|aJ aa rfl (fun h=>⟨by rw [Mg]<;>(cases o<;>rfl),h.ex⟩)
theorem AQ (w:World) (va:Value) (r:Rat) (L M:Nat) (ha:Qn w va r L M) (o:Bool) (hL:L≤300) (hM:M≤300) (h1:0<r) :A0f 76 #[.int .i64 3,.bool true,.bool o,va] w (.bool (eO 3 true o r)):=by obtain ⟨Aa,ca,Ba,ba,rfl,ua,ta,za,ya⟩:=ha;refine aC (n:=49) [vI 3,vT,vB o,.a [.c 0 0,.c 0 1,.c 0 2]] [[_,_,_]] [(0,(fG r L M).S)] func76 rfl (by kernel_rfl) rfl rfl ⟨RS.in ⟨Aa,ca,Ba,ba,rfl,ua,ta,za,ya⟩,trivial⟩ ?_;refine aD aa 1 0 rfl<|ak 1 rfl (fun _=>bG 1 (gQ _ 1 (by decide) (by decide))) ?_;refine ak 2 rfl (fun _=>bG 2 (gQ _ 2 (by decide) (by decide))) ?_;refine ak (S:=fG (Rat.divInt 1 2) 1 1) (res:=.t [.a [.c 3 0,.c 3 1,.c 3 2],vI 0]) 3 rfl (fun h=>eX 3 (bz _ _ _ 1 2 (h.r 1 rfl) (h.r 2 rfl) 1 1 (Sz.lit (K:=1) (by decide) (by decide)) (Sz.lit (K:=1) (by decide) (by decide)) (by omega) (by omega) (by omega))) ?_;refine ay aa 0 1 rfl<|ak 4 rfl (fun h=>aH 4 (aG _ _ _ r (Rat.divInt 1 2) L M 1 1 (h.r 0 rfl) (h.r 3 rfl) (by omega) (by omega))) ?_;refine ay aa 0 2 rfl<|aj (aA (by decide)) rfl ?_;refine ay aa 2 2 rfl<|aj (aA (by decide)) rfl ?_;refine ay aa 2 2 rfl<|aj (aI (by decide)) rfl ?_;refine aF aa 2 rfl<|bf (.bool false) rfl (fun X=>aN _ X)<|aF aa 2 rfl<|aj (aA (by decide)) rfl ?_;exact aL aa 0 2 rfl<|aJ aa rfl (fun h=>⟨by rw [Me,decide_eq_true h1]<;>(cases o<;>rfl),h.ex⟩)
theorem AR (w:World) (va:Value) (r:Rat) (L M:Nat) (ha:Qn w va r L M) (o:Bool) (hL:L≤300) (hM:M≤300) (h1:0<r) :A0f 76 #[.int .i64 3,.bool false,.bool o,va] w (.bool (eO 3 false o r)):=by obtain ⟨Aa,ca,Ba,ba,rfl,ua,ta,za,ya⟩:=ha;refine aC (n:=49) [vI 3,vF,vB o,.a [.c 0 0,.c 0 1,.c 0 2]] [[_,_,_]] [(0,(fG r L M).S)] func76 rfl (by kernel_rfl) rfl rfl ⟨RS.in ⟨Aa,ca,Ba,ba,rfl,ua,ta,za,ya⟩,trivial⟩ ?_;refine aD aa 1 0 rfl<|ak 1 rfl (fun _=>bG 1 (gQ _ 1 (by decide) (by decide))) ?_;refine ak 2 rfl (fun _=>bG 2 (gQ _ 2 (by decide) (by decide))) ?_;refine ak (S:=fG (Rat.divInt 1 2) 1 1) (res:=.t [.a [.c 3 0,.c 3 1,.c 3 2],vI 0]) 3 rfl (fun h=>eX 3 (bz _ _ _ 1 2 (h.r 1 rfl) (h.r 2 rfl) 1 1 (Sz.lit (K:=1) (by decide) (by decide)) (Sz.lit (K:=1) (by decide) (by decide)) (by omega) (by omega) (by omega))) ?_;refine ay aa 0 1 rfl<|ak 4 rfl (fun h=>aH 4 (aG _ _ _ r (Rat.divInt 1 2) L M 1 1 (h.r 0 rfl) (h.r 3 rfl) (by omega) (by omega))) ?_;refine ay aa 0 2 rfl<|aj (aA (by decide)) rfl ?_;refine ay aa 2 2 rfl<|aj (aA (by decide)) rfl ?_;refine ay aa 2 2 rfl<|aj (aI (by decide)) rfl ?_;exact aF aa 2 rfl<|bf (.bool true) rfl (fun X=>aN _ X)<|aL aa 0 2 rfl<|aJ aa rfl (fun h=>⟨by rw [Me,decide_eq_true h1]<;>(cases o<;>rfl),h.ex⟩)
theorem AU (w:World) (va:Value) (r:Rat) (L M:Nat) (ha:Qn w va r L M) (o:Bool) (hL:L≤300) (hM:M≤300) (h1:0<r) :A0f 76 #[.int .i64 4,.bool true,.bool o,va] w (.bool (eO 4 true o r)):=by obtain ⟨Aa,ca,Ba,ba,rfl,ua,ta,za,ya⟩:=ha;refine aC (n:=49) [vI 4,vT,vB o,.a [.c 0 0,.c 0 1,.c 0 2]] [[_,_,_]] [(0,(fG r L M).S)] func76 rfl (by kernel_rfl) rfl rfl ⟨RS.in ⟨Aa,ca,Ba,ba,rfl,ua,ta,za,ya⟩,trivial⟩ ?_;refine aD aa 1 0 rfl<|ak 1 rfl (fun _=>bG 1 (gQ _ 1 (by decide) (by decide))) ?_;refine ak 2 rfl (fun _=>bG 2 (gQ _ 2 (by decide) (by decide))) ?_;refine ak (S:=fG (Rat.divInt 1 2) 1 1) (res:=.t [.a [.c 3 0,.c 3 1,.c 3 2],vI 0]) 3 rfl (fun h=>eX 3 (bz _ _ _ 1 2 (h.r 1 rfl) (h.r 2 rfl) 1 1 (Sz.lit (K:=1) (by decide) (by decide)) (Sz.lit (K:=1) (by decide) (by decide)) (by omega) (by omega) (by omega))) ?_;refine ay aa 0 1 rfl<|ak 4 rfl (fun h=>aH 4 (aG _ _ _ r (Rat.divInt 1 2) L M 1 1 (h.r 0 rfl) (h.r 3 rfl) (by omega) (by omega))) ?_;refine ay aa 0 2 rfl<|aj (aA (by decide)) rfl ?_;refine ay aa 2 2 rfl<|aj (aA (by decide)) rfl ?_;refine ay aa 2 2 rfl<|aj (aA (by decide)) rfl ?_;refine aF aa 2 rfl<|aj (aI (by decide)) rfl ?_;exact aL aa 0 2 rfl<|aJ aa rfl (fun h=>⟨by rw [Mf,decide_eq_true h1]<;>(cases o<;>rfl),h.ex⟩)
theorem AX (w:World) (va:Value) (r:Rat) (L M:Nat) (ha:Qn w va r L M) (o:Bool) (hL:L≤300) (hM:M≤300) (h1:0<r) :A0f 76 #[.int .i64 4,.bool false,.bool o,va] w (.bool (eO 4 false o r)):=by obtain ⟨Aa,ca,Ba,ba,rfl,ua,ta,za,ya⟩:=ha;refine aC (n:=49) [vI 4,vF,vB o,.a [.c 0 0,.c 0 1,.c 0 2]] [[_,_,_]] [(0,(fG r L M).S)] func76 rfl (by kernel_rfl) rfl rfl ⟨RS.in ⟨Aa,ca,Ba,ba,rfl,ua,ta,za,ya⟩,trivial⟩ ?_;refine aD aa 1 0 rfl<|ak 1 rfl (fun _=>bG 1 (gQ _ 1 (by decide) (by decide))) ?_;refine ak 2 rfl (fun _=>bG 2 (gQ _ 2 (by decide) (by decide))) ?_;refine ak (S:=fG (Rat.divInt 1 2) 1 1) (res:=.t [.a [.c 3 0,.c 3 1,.c 3 2],vI 0]) 3 rfl (fun h=>eX 3 (bz _ _ _ 1 2 (h.r 1 rfl) (h.r 2 rfl) 1 1 (Sz.lit (K:=1) (by decide) (by decide)) (Sz.lit (K:=1) (by decide) (by decide)) (by omega) (by omega) (by omega))) ?_;refine ay aa 0 1 rfl<|ak 4 rfl (fun h=>aH 4 (aG _ _ _ r (Rat.divInt 1 2) L M 1 1 (h.r 0 rfl) (h.r 3 rfl) (by omega) (by omega))) ?_;refine ay aa 0 2 rfl<|aj (aA (by decide)) rfl ?_;refine ay aa 2 2 rfl<|aj (aA (by decide)) rfl ?_;refine ay aa 2 2 rfl<|aj (aA (by decide)) rfl ?_;refine aF aa 2 rfl<|aj (aI (by decide)) rfl ?_;exact aL aa 0 2 rfl<|aJ aa rfl (fun h=>⟨by rw [Mf,decide_eq_true h1]<;>(cases o<;>rfl),h.ex⟩)
theorem kS (w:World) (va:Value) (r:Rat) (L M:Nat) (ha:Qn w va r L M) (o:Bool) (hL:L≤300) (hM:M≤300) (d:Nat) (n:Bool) (hd:d<5) (h1:0<r) :A0f 76 #[.int .i64 ((d:Nat):Int),.bool n,.bool o,va] w (.bool (eO d n o r)):=by
 rcases (show d=0∨d=1∨d=2∨d=3∨d=4 by omega) with rfl | rfl | rfl | rfl | rfl
 · by_cases h:1/2<r
   · exact AA w va r L M ha o hL hM n h
   · by_cases h9:r=1/2
     · exact AB w va r L M ha o hL hM n h9
     · exact AJ w va r L M ha o hL hM n (by grind)
 · by_cases h:1/2≤r
   · exact AL w va r L M ha o hL hM n h
   · exact AO w va r L M ha o hL hM n h
 · cases n
   · exact Fz w va r L M ha o hL hM
   · exact AP w va r L M ha o hL hM
 · cases n
   · exact AR w va r L M ha o hL hM h1
   · exact AQ w va r L M ha o hL hM h1
 · cases n
   · exact AX w va r L M ha o hL hM h1
   · exact AU w va r L M ha o hL hM h1
theorem wY {b p:Nat} {lo hi m:Int} (hf:gV b p lo hi) (h0:0<m) (h:m<((b^p:Nat):Int)):(limbs (Int.natAbs m)).length≤p:=Sn.down (n:=b^p) (K:=p) (bg hf.r (by have:=hf.p1;omega)) (by omega)
theorem fB (w:World) (b p:Nat) (lo hi:Int) (hf:gV b p lo hi) (n9:Bool) :Calls prog 40 #[A0b b p lo hi,.bool n9] w fun e w'=>∃ u,e = .returned u∧Fv w' u (.fin n9 (((b^p:Nat):Int)-1) hi)∧aS w w':=by have f1:=hf.p1;have f2:=hf.jM;have f3:=hf.l;have f4:=hf.l1;have f5:=hf.h1;have hb2:=hf.b2;have hpw:=Nat.pow_pos (n:=p) (show 0<b by omega);refine aC (n:=21) [A0d b p lo hi,vB n9] [] [] func40 rfl (by kernel_rfl) rfl rfl trivial ?_;refine aD aa 1 0 rfl<|ak 0 rfl (fun _=>dh 0 (aX _ b p p lo hi ((p:Nat):Int) hf.r (by omega) (by omega))) ?_;refine lD (e := 57) (m:=1) [.int .u32 1] 1 (bW 1) rfl rfl rfl (fun _ _=>rfl) (fun α γ X=>by kernel_rfl) rfl (fun N w k=>Un.one (x:=1) k rfl (by omega)) ?_;refine ak (S:=bW (Int.natAbs (((b^p:Nat):Int)-1))) (res:=.t [.c 2 0,vT]) 2 rfl (fun h=>LA 2 (oH _ _ _ (b^p) 1 (h.r 0 rfl) (h.r 1 rfl) (Nat.le_trans (bg hf.r (by omega):Sn (b^p) 38) (by decide)) (Nat.le_trans (Sn.of (K:=1) (by decide)) (by decide)) true (decide_eq_true (by omega)) (Int.natAbs (((b^p:Nat):Int)-1)) (by omega))) ?_;exact ay aa 0 2 rfl<|lM (.a [vI 1,vB n9,.c 2 0,vI hi]) rfl rfl rfl (fun _ _=>rfl) (fun α γ hp X=>H6 rfl rfl (Jy 1 hi n9 (γ 2 0) (hp 2 0)) X)<|aL aa 0 2 rfl<|aJ aa rfl (fun h=>⟨_,rfl,Fv.mk (x:=.fin n9 (((b^p:Nat):Int)-1) hi) (h.r 2 rfl),h.ex⟩)
theorem AY (w:World) (va:Value) (n9:Bool) (ha:Fv w va (.zero n9)) (b p:Nat) (lo hi:Int) (hf:gV b p lo hi) :A0f 16 #[A0b b p lo hi,va] w (.bool true):=by obtain ⟨Aa,ca,rfl,ua⟩:=ha;refine aC (n:=88) [A0d b p lo hi,.a [vI 0,vB n9,.c 0 0,vI 0]] [[_]] [(0,(bW 0).S)] func16 rfl (by kernel_rfl) rfl rfl ⟨RS.in ua,trivial⟩ ?_;refine aD aa 1 0 rfl<|ak 1 rfl (fun _=>aH 1 (dK _ b p lo hi hf))<|bf (.bool false) rfl (fun X=>aN _ X)<|aF aa 2 rfl<|aj (aP (by decide)) rfl ?_;refine aF aa 2 rfl<|aj (aY (by decide)) rfl ?_;refine ay aa 2 2 rfl<|aj (jN (by decide)) rfl ?_;refine ay aa 1 2 rfl<|dF ((limbs 0).length) underlying24 rfl rfl rfl rfl rfl rfl (fun w f h=>Un.jr h)<|aj (aI (by rw [bF];rfl)) rfl ?_;refine aF aa 2 rfl<|aj (aI (by decide)) rfl ?_;exact aL aa 0 2 rfl<|aJ aa rfl (fun h=>⟨rfl,h.ex⟩)
theorem AZ (w:World) (va:Value) (n9:Bool) (ha:Fv w va (.inf n9)) (b p:Nat) (lo hi:Int) (hf:gV b p lo hi) :A0f 16 #[A0b b p lo hi,va] w (.bool true):=by obtain ⟨Aa,ca,rfl,ua⟩:=ha;refine aC (n:=88) [A0d b p lo hi,.a [vI 2,vB n9,.c 0 0,vI 0]] [[_]] [(0,(bW 0).S)] func16 rfl (by kernel_rfl) rfl rfl ⟨RS.in ua,trivial⟩ ?_;refine aD aa 1 0 rfl<|ak 1 rfl (fun _=>aH 1 (dK _ b p lo hi hf))<|bf (.bool false) rfl (fun X=>aN _ X)<|aF aa 2 rfl<|aj (aP (by decide)) rfl ?_;refine aF aa 2 rfl<|aj (aY (by decide)) rfl ?_;refine ay aa 2 2 rfl<|aj (jN (by decide)) rfl ?_;refine ay aa 1 2 rfl<|dF ((limbs 0).length) underlying24 rfl rfl rfl rfl rfl rfl (fun w f h=>Un.jr h)<|aj (aI (by rw [bF];rfl)) rfl ?_;refine aF aa 2 rfl<|aj (aI (by decide)) rfl ?_;exact aL aa 0 2 rfl<|aJ aa rfl (fun h=>⟨rfl,h.ex⟩)
theorem A8 (w:World) (va:Value) (n9:Bool) (m e0:Int) (ha:Fv w va (.fin n9 m e0)) (b p:Nat) (lo hi:Int) (hf:gV b p lo hi) (hs0:Sn (Int.natAbs m) 38) (h1:lo≤e0) (h2:e0≤hi) (h3:0<m) (h4:m<((b^p:Nat):Int)) (h5:e0=lo) :A0f 16 #[A0b b p lo hi,va] w (.bool true):=by have f1:=hf.p1;have f2:=hf.jM;have f3:=hf.l;have f4:=hf.l1;have f5:=hf.h1;obtain ⟨Aa,ca,rfl,ua⟩:=ha;have hs:Sn (Int.natAbs m) 38:=hs0;have hlp:=wY hf h3 h4;refine aC (n:=88) [A0d b p lo hi,.a [vI 1,vB n9,.c 0 0,vI e0]] [[_]] [(0,(bW (Int.natAbs m)).S)] func16 rfl (by kernel_rfl) rfl rfl ⟨RS.in ua,trivial⟩ ?_;refine aD aa 1 0 rfl<|ak 1 rfl (fun _=>aH 1 (dK _ b p lo hi hf))<|bf (.bool false) rfl (fun X=>aN _ X)<|aF aa 2 rfl<|aj (aP (by decide)) rfl ?_;refine aF aa 2 rfl<|aj (aY (by decide)) rfl ?_;refine ay aa 2 2 rfl<|aj (bY (by decide)) rfl ?_;refine ay aa 2 2 rfl<|dF ((limbs (Int.natAbs m)).length) underlying24 rfl rfl rfl rfl rfl rfl (fun w f h=>Un.jr h)<|aj (aA (fun h=>by rw [Int.ofNat_eq_zero,iU] at h;omega)) rfl ?_;refine aF aa 2 rfl<|ak 2 rfl (fun h=>aH 2 (jO _ _ (limbs (Int.natAbs m)) (h.r 0 rfl) true (dW (Sn.le hs (by decide))))) ?_;refine bf (.bool false) rfl (fun X=>aN _ X)<|aF aa 2 rfl<|aj (aP (by omega)) rfl ?_;refine aF aa 2 rfl<|aj (aY (by omega)) rfl ?_;refine aF aa 2 rfl<|dF ((limbs (Int.natAbs m)).length) underlying24 rfl rfl rfl rfl rfl rfl (fun w f h=>Un.jr h)<|aF aa 2 rfl<|aj (aY (by omega)) rfl ?_;refine aL aa 2 2 rfl<|aQ none fo<|az aa 27 2 rfl<|ah 3 rfl (fun _=>dh 3 (aX _ b p p lo hi ((p:Nat):Int) hf.r (by omega) (by omega))) ?_;refine ah 4 rfl (fun h=>aH 4 (iB _ _ _ (Int.natAbs m) (b^p) (h.r 0 rfl) (h.r 3 rfl) (Nat.le_trans hs (by decide)) (Nat.le_trans (bg hf.r (by omega):Sn (b^p) 38) (by decide)) _ rfl)) ?_;refine bC (vT) rfl (fun _=>bE (jA.2 (by omega)) _) ?_;refine az aa 27 2 rfl<|bC (vT) rfl (fun _=>aI h5 _)<|az aa 27 2 rfl<|aR (by kernel_rfl) ?_;exact aU [4] [] [] rfl<|aJ aa rfl (fun h=>⟨rfl,h.ex⟩)
theorem A9 (w:World) (va:Value) (n9:Bool) (m e0:Int) (ha:Fv w va (.fin n9 m e0)) (b p:Nat) (lo hi:Int) (hf:gV b p lo hi) (hs0:Sn (Int.natAbs m) 38) (h1:lo≤e0) (h2:e0≤hi) (h3:0<m) (h4:m<((b^p:Nat):Int)) (h5:¬ e0=lo) (h6:((b^(p-1):Nat):Int)≤m) :A0f 16 #[A0b b p lo hi,va] w (.bool true):=by have f1:=hf.p1;have f2:=hf.jM;have f3:=hf.l;have f4:=hf.l1;have f5:=hf.h1;obtain ⟨Aa,ca,rfl,ua⟩:=ha;have hs:Sn (Int.natAbs m) 38:=hs0;have hlp:=wY hf h3 h4;refine aC (n:=88) [A0d b p lo hi,.a [vI 1,vB n9,.c 0 0,vI e0]] [[_]] [(0,(bW (Int.natAbs m)).S)] func16 rfl (by kernel_rfl) rfl rfl ⟨RS.in ua,trivial⟩ ?_;refine aD aa 1 0 rfl<|ak 1 rfl (fun _=>aH 1 (dK _ b p lo hi hf))<|bf (.bool false) rfl (fun X=>aN _ X)<|aF aa 2 rfl<|aj (aP (by decide)) rfl ?_;refine aF aa 2 rfl<|aj (aY (by decide)) rfl ?_;refine ay aa 2 2 rfl<|aj (bY (by decide)) rfl ?_;refine ay aa 2 2 rfl<|dF ((limbs (Int.natAbs m)).length) underlying24 rfl rfl rfl rfl rfl rfl (fun w f h=>Un.jr h)<|aj (aA (fun h=>by rw [Int.ofNat_eq_zero,iU] at h;omega)) rfl ?_;refine aF aa 2 rfl<|ak 2 rfl (fun h=>aH 2 (jO _ _ (limbs (Int.natAbs m)) (h.r 0 rfl) true (dW (Sn.le hs (by decide))))) ?_;refine bf (.bool false) rfl (fun X=>aN _ X)<|aF aa 2 rfl<|aj (aP (by omega)) rfl ?_;refine aF aa 2 rfl<|aj (aY (by omega)) rfl ?_;refine aF aa 2 rfl<|dF ((limbs (Int.natAbs m)).length) underlying24 rfl rfl rfl rfl rfl rfl (fun w f h=>Un.jr h)<|aF aa 2 rfl<|aj (aY (by omega)) rfl ?_;refine aL aa 2 2 rfl<|aQ none fo<|az aa 27 2 rfl<|ah 3 rfl (fun _=>dh 3 (aX _ b p p lo hi ((p:Nat):Int) hf.r (by omega) (by omega))) ?_;refine ah 4 rfl (fun h=>aH 4 (iB _ _ _ (Int.natAbs m) (b^p) (h.r 0 rfl) (h.r 3 rfl) (Nat.le_trans hs (by decide)) (Nat.le_trans (bg hf.r (by omega):Sn (b^p) 38) (by decide)) _ rfl)) ?_;refine bC (vT) rfl (fun _=>bE (jA.2 (by omega)) _) ?_;refine az aa 27 2 rfl<|bC (vF) rfl (fun _=>aA h5 _)<|az aa 27 2 rfl<|Ei (vI (((p:Nat):Int)-1)) rfl rfl rfl rfl rfl rfl rfl rfl rfl rfl (fun α γ w h=>(fun X=>fQ (by omega) X) w) ?_;refine ah 5 rfl (fun _=>dh 5 (aX _ b p (p-1) lo hi (((p:Nat):Int)-1) hf.r (by omega) (by omega))) ?_;refine ah 6 rfl (fun h=>aH 6 (iB _ _ _ (Int.natAbs m) (b^(p-1)) (h.r 0 rfl) (h.r 5 rfl) (Nat.le_trans hs (by decide)) (Nat.le_trans (bg hf.r (by omega):Sn (b^(p-1)) 38) (by decide)) _ rfl)) ?_;refine bC (vT) rfl (fun _=>dD (iE.2 (by omega)) _) ?_;refine az aa 27 2 rfl<|aR (by kernel_rfl) ?_;exact aU [4] [] [] rfl<|aJ aa rfl (fun h=>⟨rfl,h.ex⟩)
