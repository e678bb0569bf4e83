/- Base. -/
import Derived.Test.YtgcieamfidoaoaaGreatDoorGai
import Derived.RangeFuncNested
import Derived.RangeFuncBound
import Derived.RangeFuncCalls
import Derived.RangeFuncBox
import Derived.Shelf.Abstract
import Derived.Shelf.RegionOpen
import Derived.OwnWalkIn
import Derived.TacticsInMore
import Derived.LoopNIn
import Derived.LoopIn
set_option linter.all false
set_option maxHeartbeats 8000000
namespace Go.Proofs.YtgcieamfidoaoaaGreatDoor
open Go.Proofs.Tryz
open Go.RowKit
section
set_option maxRecDepth 100000
theorem Pz (w:World) (v u:Value) (xs ys:List Nat) (h:U w v xs) (g:U w u ys) :Calls prog 57 #[v,u] w fun e w'=>e = .returned (.bool (decide (xs=ys)))∧∃ n,w'=w.drewN n:=by
 obtain ⟨A,c,rfl,⟨hc,hm⟩,hx,hr⟩:=h;obtain ⟨A2,c2,rfl,⟨hc2,hm2⟩,hx2,hr2⟩:=g;by_cases hl:xs.length=ys.length
 · have hl1:(((xs.length:Nat):Int) != ((ys.length:Nat):Int))=false:=(by rw [bne_eq_false_iff_eq,hl]);have HL:=Lib.hid hl;clear hl;go_enter func57,ntmps57;go_wp2;go_loopw [5] (fun n wr=>∃ k:Nat,k≤xs.length∧n = .int .i64 k∧Hid (∀ j,j<k→lb xs j=lb ys j)∧∃ m,wr=w.drewN m) (fun n _=>xs.length-(intOf n).toNat);case atStart=>exact ⟨0,Nat.zero_le _,rfl,fun j h=>by omega,0,rfl⟩
   case round =>
    obtain ⟨k,hk,rfl,hz,m,rfl⟩:=hrel;by_cases hlt:k<xs.length
    · obtain ⟨ad,rfl,hb,hcell⟩:=hr (by omega);obtain ⟨LW,rfl,hb2,hcell2⟩:=hr2 (by have:=HL.out;omega);have hc1:=hcell k hlt;have hc3:=hcell2 k (by have:=HL.out;omega);have hk2:((k:Nat):Int)<ys.length:=(by have:=HL.out;omega);by_cases he:lb xs k=lb ys k
      · have ht:((((lb xs k:Nat)):Int) != ((lb ys k:Nat):Int))=false:=(by rw [bne_eq_false_iff_eq,he]);have HX:=Lib.hid he;clear he;go_wp2;go_quiet (fail);go_wp2;go_roundw
        case rel=>exact ⟨k+1,by omega,by go_num,fun j h1=>by
         rcases Nat.lt_or_ge j k with h3 | h3
         · exact hz.out j h3
         · have:j=k:=(by omega);subst this;exact HX.out,_,rfl⟩
        case measure=>simp [intOf];omega
      · have ht:((((lb xs k:Nat)):Int) != ((lb ys k:Nat):Int))=true:=(by rw [bne_iff_ne];omega);have HX:=Lib.hid he;clear he;have hf:decide (xs=ys)=false:=decide_eq_false fun h=>HX.out (by rw [h]);have HF:=Lib.hid hf;clear hf;go_wp2;go_quiet (fail);go_wp2;go_ret;exact ⟨by rw [HF.out];rfl,_,World.drewN_drewN _ _ _⟩
    · have hf:decide (xs=ys)=true:=decide_eq_true (ww HL.out fun j hj=>hz.out j (by omega));have HF:=Lib.hid hf;clear hf;go_wp2;go_ret;exact ⟨by rw [HF.out];rfl,_,rfl⟩
 · have hl1:(((xs.length:Nat):Int) != ((ys.length:Nat):Int))=true:=(by rw [bne_iff_ne];omega);have hf:decide (xs=ys)=false:=decide_eq_false fun h=>hl (by rw [h]);have HF:=Lib.hid hf;clear hl hf;go_enter func57,ntmps57;go_wp2;go_ret;exact ⟨by rw [HF.out];rfl,0,rfl⟩
end
theorem NL (x s:Nat):((x:Nat):Int)*2^s%4294967296=((x*2^s%4294967296:Nat):Int):=by rw [Int.natCast_emod,Int.natCast_mul,Int.natCast_pow];rfl
theorem Ho (x s:Nat):((x:Nat):Int)/2^s=((x/2^s:Nat):Int):=by rw [Int.natCast_ediv,Int.natCast_pow];rfl
theorem DW (a b:Nat) (ha:a<4294967296) (c:Int) (hc:c=(b:Nat)) (hb:b<4294967296):bits .or .u32 (a:Int) c=((a|||b:Nat):Int):=by subst hc;exact u32_or_nat a b ha hb
theorem XY (xs:List Nat) (k:Nat) (hx:∀ x∈xs,x<4294967296) (hk:k<xs.length) (h2:xs.length≤2) :bits .or .u64 ((val (xs.take k):Nat):Int) (IntKind.u64.wrap (IntKind.u64.wrap ((lb xs k:Nat):Int)*2^(32*k)))=((val (xs.take (k+1)):Nat):Int):=by
 have hl:=fD hx k;have hv:=ru (xs.take k) (fun x h=>hx x (List.mem_of_mem_take h));rw [List.length_take,Nat.min_eq_left (by omega)] at hv;have e0:IntKind.u64.wrap ((lb xs k:Nat):Int)=((lb xs k:Nat):Int):=by rw [IntKind.wrap_u64];omega
 have hk1:k=0∨k=1:=by omega
 have hb:lb xs k*2^(32*k)<18446744073709551616:=by
  rcases hk1 with rfl | rfl
  · simp only [Nat.mul_zero,Nat.pow_zero];omega
  · simp only [Nat.mul_one,Nat.reducePow];omega
 have e1:IntKind.u64.wrap (((lb xs k:Nat):Int)*2^(32*k))=((lb xs k*2^(32*k):Nat):Int):=by
  have e:((lb xs k:Nat):Int)*2^(32*k)=((lb xs k*2^(32*k):Nat):Int):=by rw [Int.natCast_mul,Int.natCast_pow];rfl
  rw [IntKind.wrap_u64,e];omega
 have hv2:val (xs.take k)<18446744073709551616:=by
  rcases hk1 with rfl | rfl
  · simp only [Nat.pow_zero] at hv;omega
  · simp only [Nat.reducePow] at hv;omega
 rw [e0,e1,u64_or_nat _ _ hv2 hb,Da _ _ _ (by rw [← yM];exact hv),mD xs k hk,yM]
section
set_option maxRecDepth 100000
theorem info57 : (prog.info? 57).map (fun i=>(i.zero,i.size,i.bytes))=some (some (.int .u32 0),1,4):=by kernel_rfl
theorem Tz (w:World) (v:Value) (n:Nat) (k:Int) (hk0:0≤k) (hk1:k≤1000000000) (h:Un w v n) (hl:(limbs n).length≤1000000000) :Calls prog 88 #[v,.int .i64 k] w fun e w'=>(∃ u,e = .returned u∧Un w' u (n*2^k.toNat))∧Below w.heap.size w w':=by
 obtain ⟨A,c,rfl,⟨hc,hm⟩,hx,hr⟩:=h;obtain ⟨k,rfl⟩:=Int.eq_ofNat_of_zero_le hk0;rcases Nat.eq_zero_or_pos n with h0 | h0
 · obtain rfl:n=0:=h0;have hz:limbs 0=[]:=bF;have hu:Un w (.slice none 0 0) (0*2^k):=(by rw [Nat.zero_mul,Un,bF];exact U.zZ _ _ _);have HU:=Lib.hid hu;rw [hz];clear hu hz hr hx hm hl hc;go_enter func88,ntmps88;go_wp2;go_ret;exact ⟨⟨_,rfl,HU.out⟩,Below.refl _ _⟩
 · have hlen:0<(limbs n).length:=(by rw [iG (by omega)];simp);obtain ⟨ad,rfl,hb,hcell⟩:=hr hlen;have hne:(((limbs n).length:Int)==0)=false:=(by rw [beq_eq_false_iff_ne];omega);obtain ⟨i0,hi,hz0,hz1,hz2⟩:=info_parts info57;have hq:Hid (((k:Nat):Int)/32=((k/32:Nat):Int)):=(by rw [Hid];omega);generalize hxs:limbs n=xs at *;have HX:=Lib.hid hxs;clear hxs hr;have hkn:decide (((k:Nat):Int)<0)=false:=(by rw [decide_eq_false_iff_not];omega);go_enter func88,ntmps88;go_wp2_with (at_make;refine wpList_make_full _ rfl _ _ 24 rfl w.heap.size 57 i0 (.int .u32 0) 1 underlying24 hi hz0 hz1 _ _ _ _ (k/32+xs.length+1) rfl rfl (by omega) (by omega) (by rw [hz2];omega) (by unfold maxLen;omega) (Nat.le_refl _) ?_;intro w1 hown hgrow);have ho0:=Own.zeros hown;have hB0:Below w.heap.size w w1:=(Below.refl _ _).grown hgrow (Nat.le_refl _) (fun _ h=>by cases h);clear hown hgrow;go_loopw [29] (fun m wr=>∃ (i:Nat) (o:List Nat),i≤xs.length∧m = .int .i64 i∧Hid (vQ xs (k/32) (k%32) (k/32+xs.length+1) i o)∧Own wr w.heap.size (.slice (some ⟨w.heap.size,0,none⟩) o.length (k/32+xs.length+1)) o∧Below w.heap.size w wr) (fun m _=>xs.length-(intOf m).toNat);case atStart=>exact ⟨0,_,Nat.zero_le _,rfl,vQ.start _ _ _ _,ho0,hB0⟩
   case round =>
    obtain ⟨i,o,hik,rfl,HO,hown,hB⟩:=hrel;have Yh:=HO.out.len;by_cases hlt:i<xs.length
    · have hc1:=(hB.cell (p:=ad.add i) (by rw [aW];exact hb)).trans (hcell i hlt);have hc2:=hown.cell (j:=k/32+i) (by omega);have hc3:=hown.cell (j:=k/32+i+1) (by omega);have hf2:=hown.frozen (k/32+i);have hf3:=hown.frozen (k/32+i+1);rw [Yh] at hown;clear Yh
      have HF:Hid (bits .or .u32 (lb o (k/32+i):Int) (((lb xs i:Nat):Int)*2^(k%32)%4294967296)=((lb o (k/32+i)|||lb xs i*2^(k%32)%4294967296:Nat):Int)) :=
       DW _ _ (fD HO.out.lt _) _ (NL _ _) (Nat.mod_lt _ (by decide))
      have HG:Hid (((lb xs i:Nat):Int)/2^(32-k%32)=((lb xs i/2^(32-k%32):Nat):Int)):=Ho _ _;go_wp2;go_region;go_wp2;rw [HF.out,HG.out];go_roundw;case rel =>have hst:=HO.out.step (Nat.mod_lt _ (by decide)) hx hlt rfl;refine ⟨i+1,_,by omega,by go_num,hst,?_,((hB.setCell (by simp) _).setCell (by simp) _).drew⟩;have h1:=(Own.qU (o:=o) (by rw [HO.out.len];exact hown) (k/32+i) (lb o (k/32+i)|||lb xs i*2^(k%32)%4294967296));exact (Own.qU h1 (k/32+i+1) (lb xs i/2^(32-k%32))).drew
      case measure=>simp [intOf];omega
    · obtain rfl:i=xs.length:=(by omega);have hu:=hown.Ht HO.out.lt (by omega);have hv:=HO.out.done;rw [← HX.out,aM] at hv;have HV:=Lib.hid hv;rw [Yh] at hu;clear hv Yh hlt;go_wp2_with fail;refine (mY _ _ _ hu).mono ?_;rintro e w2 ⟨⟨u,rfl,hu2⟩,rfl⟩;have hu3:Un wr u (n*2^((k:Int)).toNat):=(by rw [Un,Int.toNat_natCast,← HV.out];exact hu2);clear hu2;go_wp2;go_ret;exact ⟨⟨_,rfl,hu3⟩,hB⟩
end
section
set_option maxRecDepth 100000
theorem Ty (w:World) (v:Value) (n:Nat) (i:Int) (hi0 : -9000000000000≤i) (hi1:i≤9000000000000) (h:Un w v n) :Calls prog 123 #[v,.int .i64 i] w fun e w'=>e = .returned (.int .u32 (rY n i:Nat))∧w=w':=by
 obtain ⟨A,c,rfl,⟨hc,hm⟩,hx,hr⟩:=h;by_cases h0:i<0
 · have HF:Hid (rY n i=0):=if_pos h0;go_enter func123,ntmps123;go_wp2;go_ret;exact ⟨by rw [HF.out];rfl,rfl⟩
 · obtain ⟨k,rfl⟩:=Int.eq_ofNat_of_zero_le (show 0≤i by omega);have hkn:decide (((k:Nat):Int)<0)=false:=(by rw [decide_eq_false_iff_not];omega);have HB:Hid (rY n (k:Int)=n/2^k%2):=(by rw [Hid,rY,if_neg h0,Int.toNat_natCast]);by_cases h1:k/32<(limbs n).length
   · obtain ⟨ad,rfl,hb,hcell⟩:=hr (by omega);have hc1:=hcell (k/32) h1;have hL:=fD hx (k/32);have hd:lb (limbs n) (k/32)/2^(k%32)<4294967296:=Nat.lt_of_le_of_lt (Nat.div_le_self _ _) hL;have HF:Hid (bits .and .u32 (((lb (limbs n) (k/32):Nat):Int)/2^(k%32)) 1=((rY n (k:Int):Nat):Int)):=(by rw [Hid,Ho,HB.out,← Hl n k];have:=u32_and_nat (lb (limbs n) (k/32)/2^(k%32)) 1 hd (by decide);rw [Nat.and_one_is_mod] at this;exact this);clear hd hL HB;go_enter func123,ntmps123;go_wp2;go_ret;exact ⟨by rw [← HF.out];rfl,rfl⟩
   · have HF:Hid (rY n (k:Int)=0):=(by rw [Hid,HB.out];exact Rt n k (by omega));go_enter func123,ntmps123;go_wp2;go_ret;exact ⟨by rw [HF.out];rfl,rfl⟩
theorem PD (w:World) (v:Value) (n:Nat) (h:Un w v n) (hl:(limbs n).length≤1000000000) :Calls prog 119 #[v] w fun e w'=>e = .returned (.int .i64 (dI n:Nat))∧w=w':=by
 obtain ⟨A,c,rfl,⟨hc,hm⟩,hx,hr⟩:=h;by_cases h0:n=0
 · subst h0;have hz:limbs 0=[]:=bF;rw [hz];clear hz hr hx hm hl hc;have HF:Hid (dI 0=0):=rfl;go_enter func119,ntmps119;go_wp2;go_ret;exact ⟨by rw [HF.out];rfl,rfl⟩
 · have HF:=Lib.hid (zC n h0);have hlen:0<(limbs n).length:=(by rw [iG h0];simp);obtain ⟨ad,rfl,hb,hcell⟩:=hr hlen;have hc1:=hcell ((limbs n).length-1) (by omega);have hne:(((limbs n).length:Int)==0)=false:=(by rw [beq_eq_false_iff_ne];omega);have hL:=fD hx ((limbs n).length-1);have hB:=eu (k:=32) hL;have HL:=Lib.hid hL;clear hL;go_enter func119,ntmps119;go_wp2_with (go_at_call 142;refine (DF _ _ HL.out).mono ?_;rintro e w' ⟨rfl,rfl⟩);go_ret;exact ⟨by rw [HF.out];exact pz (by omega),rfl⟩
theorem Tw (w:World) (n:Nat) (hn:n<18446744073709551616) :Calls prog 181 #[.int .u64 n] w fun e w'=>(∃ u,e = .returned u∧Un w' u n)∧Below w.heap.size w w':=by
 have HN:=Lib.hid hn;go_enter func181,ntmps181;go_wp2_with fail;have hn':=HN.out;have hv:val [n%4294967296,n/4294967296]=n:=by simp only [val];omega
 have hu:U (w.alloc (Obj.cells #[Value.int IntKind.u32 ((n:Int)%4294967296),Value.int IntKind.u32 ((n:Int)/4294967296)] 57)) (.slice (some ⟨w.heap.size,0,none⟩) 2 2) [n%4294967296,n/4294967296]:=by
  refine ⟨_,2,rfl,⟨Nat.le_refl _,by simp⟩,by intro x hx;simp at hx;omega,fun _=>⟨_,rfl,by simp,fun j hj=>?_⟩⟩;have:j=0∨j=1:=by simp at hj;omega
  rcases this with rfl | rfl
  · simp [lb,Addr.add]
  · simp [lb,Addr.add]
 clear hn' hn;refine (mY _ _ _ hu).mono ?_;rintro e w2 ⟨⟨u,rfl,hu2⟩,rfl⟩;rw [hv] at hu2;clear hv;go_wp2;go_ret;exact ⟨⟨_,rfl,hu2⟩,(Below.refl _ _).alloc (Nat.le_refl _) _⟩
end
section
set_option maxRecDepth 100000
theorem Tx (w:World) (v:Value) (n:Nat) (h:Un w v n) :Calls prog 180 #[v] w fun e w'=>e = .returned (.tuple #[.int .u64 (Gi n:Nat),.bool (Bw n)])∧w=w':=by
 obtain ⟨A,c,rfl,⟨hc,hm⟩,hx,hr⟩:=h;by_cases h2:(limbs n).length≤2
 · have hB:Bw n=true:=PK h2;have hN:Gi n=n:=PL h2;have HB:=Lib.hid hB;have HN:=Lib.hid hN;clear hB hN;go_enter func180,ntmps180;go_wp2;go_loop [4,12] (fun s i=>∃ k:Nat,k≤(limbs n).length∧i = .int .i64 k∧s = .int .u64 (val ((limbs n).take k):Nat)) (fun s i=>(limbs n).length-(intOf i).toNat);case atStart=>exact ⟨0,Nat.zero_le _,rfl,rfl⟩
   case round =>
    obtain ⟨k,hk,rfl,rfl⟩:=hrel;by_cases hlt:k<(limbs n).length
    · obtain ⟨ad,rfl,hb,hcell⟩:=hr (by omega);have hc1:=hcell k hlt;go_wp2;go_round;case rel=>exact ⟨k+1,by omega,by go_num,by rw [XY _ k hx hlt h2]⟩
      case measure=>simp [intOf];omega
    · have HV:Hid (Gi n=val ((limbs n).take k)):=(by rw [Hid,HN.out,show k=(limbs n).length by omega,List.take_length,aM]);clear HN;go_wp2;go_ret2;exact ⟨by rw [HV.out,HB.out];rfl,rfl⟩
 · have HB:Hid (Bw n=false):=PM (by omega);have HN:Hid (Gi n=0):=PN (by omega);go_enter func180,ntmps180;go_wp2;go_ret2;exact ⟨by rw [HN.out,HB.out];rfl,rfl⟩
theorem TA (w:World) (v:Value) (n:Nat) (k:Int) (hk0:0≤k) (hk1:k≤1000000000) (h:Un w v n) (hl:(limbs n).length≤1000000000) :Calls prog 145 #[v,.int .i64 k] w fun e w'=>(∃ u,e = .returned u∧Un w' u (n/2^k.toNat))∧Below w.heap.size w w':=by
 obtain ⟨A,c,rfl,⟨hc,hm⟩,hx,hr⟩:=h;obtain ⟨k,rfl⟩:=Int.eq_ofNat_of_zero_le hk0;have hkn:decide (((k:Nat):Int)<0)=false:=by rw [decide_eq_false_iff_not];omega
 by_cases h0:k/32<(limbs n).length
 · obtain ⟨ad,rfl,hb,hcell⟩:=hr (by omega);obtain ⟨i0,hi,hz0,hz1,hz2⟩:=info_parts info57;generalize hxs:limbs n=xs at *;have HX:=Lib.hid hxs;have hcap:decide (c=k/32)=false:=(by rw [decide_eq_false_iff_not];omega);clear hxs hr;go_enter func145,ntmps145;go_wp2_with (at_make;refine wpList_make_full _ rfl _ _ 24 rfl w.heap.size 57 i0 (.int .u32 0) 1 underlying24 hi hz0 hz1 _ _ _ _ (xs.length-k/32) rfl rfl (by omega) (by omega) (by rw [hz2];omega) (by unfold maxLen;omega) (Nat.le_refl _) ?_;intro w1 hown hgrow);have ho0:=Own.zeros hown;have hB0:Below w.heap.size w w1:=(Below.refl _ _).grown hgrow (Nat.le_refl _) (fun _ h=>by cases h);have hys:Hid ((xs.drop (k/32)).length=xs.length-k/32):=(by rw [Hid,List.length_drop]);have hyl:=Lib.hid (aaJ (k/32) hx);clear hown hgrow;go_loopw [29] (fun m wr=>∃ (i:Nat) (o:List Nat),i≤xs.length-k/32∧m = .int .i64 i∧Hid (qi (xs.drop (k/32)) (k%32) (xs.length-k/32) i o)∧Own wr w.heap.size (.slice (some ⟨w.heap.size,0,none⟩) o.length (xs.length-k/32)) o∧Below w.heap.size w wr) (fun m _=>xs.length-k/32-(intOf m).toNat);case atStart=>exact ⟨0,_,Nat.zero_le _,rfl,qi.start _ _ _,ho0,hB0⟩
   case round =>
    obtain ⟨i,o,hik,rfl,HO,hown,hB⟩:=hrel;have Yh:=HO.out.len;by_cases hlt:i<xs.length-k/32
    · have hc1:wr.cell? ((ad.add (k/32)).add i)=some (.int .u32 ((lb (xs.drop (k/32)) i:Nat):Int)):=(by rw [addr_add_add,Er];exact (hB.cell (p:=ad.add (k/32+i)) (by rw [aW];exact hb)).trans (hcell _ (by omega)));have hc2:=hown.cell (j:=i) (by omega);have hf2:=hown.frozen i;have hown':=hown;rw [Yh] at hown;have HG:Hid (((lb (xs.drop (k/32)) i:Nat):Int)/2^(k%32)=((lb (xs.drop (k/32)) i/2^(k%32):Nat):Int)):=Ho _ _;by_cases hi0:i=0
      · subst hi0;rw [lF] at hc1;clear Yh;go_wp2;rw [HG.out];go_roundw;case rel =>have hst:=HO.out.step0 (Nat.mod_lt _ (by decide)) hyl.out (by rw [hys.out];omega) hys.out.symm;exact ⟨1,_,by omega,by go_num,hst,Own.qU hown' 0 _,hB.setCell (by simp) _⟩
        case measure=>simp [intOf];omega
      · have hc3:=hown'.cell (j:=i-1) (by omega);have hf3:=hown'.frozen (i-1)
        have HF:Hid (bits .or .u32 (lb o (i-1):Int) (((lb (xs.drop (k/32)) i:Nat):Int)*2^(32-k%32)%4294967296)=((lb o (i-1)|||lb (xs.drop (k/32)) i*2^(32-k%32)%4294967296:Nat):Int)) :=
         DW _ _ (fD HO.out.lt _) _ (NL _ _) (Nat.mod_lt _ (by decide))
        clear Yh;go_wp2;go_region;go_wp2;rw [HF.out,HG.out];go_roundw;case rel =>have hst:=HO.out.step (by omega) (Nat.mod_lt _ (by decide)) hyl.out (by rw [hys.out];omega) hys.out.symm;exact ⟨i+1,_,by omega,by go_num,hst,(Own.qU (Own.qU hown' i _) (i-1) _).drew,((hB.setCell (by simp) _).setCell (by simp) _).drew⟩
        case measure=>simp [intOf];omega
    · have hu:=hown.Ht HO.out.lt (by omega);have hv:=HO.out.done hx (by rw [hys.out];omega);rw [← HX.out,aM] at hv;have HV:=Lib.hid hv;rw [Yh] at hu;clear hv Yh;go_wp2_with fail;refine (mY _ _ _ hu).mono ?_;rintro e w2 ⟨⟨u,rfl,hu2⟩,rfl⟩;have hu3:Un wr u (n/2^((k:Int)).toNat):=(by rw [Un,Int.toNat_natCast,← HV.out];exact hu2);clear hu2;go_wp2;go_ret;exact ⟨⟨_,rfl,hu3⟩,hB⟩
 · have hu:Un w (.slice none 0 0) (n/2^((k:Int)).toNat):=(by have:=ow n;have h2:4294967296^(limbs n).length≤4294967296^(k/32):=Nat.pow_le_pow_right (by decide) (by omega);have h3:2^(32*(k/32))≤2^k:=Nat.pow_le_pow_right (by decide) (by omega);rw [yM (k/32)] at h2;rw [Int.toNat_natCast,Nat.div_eq_of_lt (by omega),Un,bF];exact U.zZ _ _ _);have HU:=Lib.hid hu;clear hu;go_enter func145,ntmps145;go_wp2;go_ret;exact ⟨⟨_,rfl,HU.out⟩,Below.refl _ _⟩
end
section
open Go.Shelf
attribute [local go_sem] Oper.semAt_some
abbrev Ix (L:Nat):={ k:Nat // k<L }
abbrev adJ (xs:List Nat) (p:Ix xs.length):Array Value:=#[.int .i64 (p.1:Int),.int .u32 ((lb xs p.1:Nat):Int)]
set_option maxRecDepth 100000 in
theorem XV (l Bs:Nat) (ad:Addr) (c:Nat) (xs:List Nat) (hm:xs.length≤9223372036854775807) (n₀:Nat) (hb:ad.block<n₀) (J Jx:List (Ix xs.length)→World→Prop) (hY:∀ pre x W,J pre W→pre.length<xs.length→YieldAt Fence.wide 2 prog l (adJ xs x) W fun e W' => (e = .returned (.bool true)∧J (pre++[x]) W'∧Below n₀ W W')∨(e = .returned (.bool false)∧Jx (pre++[x]) W')) (W:World) (hBn:Bs<n₀) (IY:W.cell? ⟨Bs,0,none⟩=some (.slice (some ad) xs.length c)) (hc:∀ j,j<xs.length→W.cell? (ad.add j)=some (.int .u32 ((lb xs j:Nat):Int))) (h0:J [] W) :CallsIn Fence.wide 3 prog 128 #[.func (.yield l) #[] #[],A0a Bs] W fun e W'=>(∃ v,e = .returned v) ∧((∃ ys,ys.map (·.1)=uM xs.length xs.length∧J ys W')∨(∃ pre,(∃ k,k≤xs.length∧pre.map (·.1)=uM xs.length k)∧Jx pre W')):=by
 refine callsIn_of_wp func128 rfl trivial ?_ rfl;simp only [ntmps128,List.size_toArray,List.length_cons,List.length_nil,Nat.reduceAdd,Nat.reduceSub,Array.replicate_succ,Array.replicate_zero,List.push_toArray,List.append_toArray,List.nil_append,List.cons_append];gi_wp2
 gi_loopw [3] (fun i wr=>∃ (k:Nat) (pre:List (Ix xs.length)),k≤xs.length∧i = .int .i64 ((xs.length:Int)-1-k)∧Hid (pre.map (·.1)=uM xs.length k)∧J pre wr∧Below n₀ W wr)
  (fun i _=>(intOf i+1).toNat)
 case atStart=>exact ⟨0,[],Nat.zero_le _,by simp,rfl,h0,Below.refl _ _⟩
 case round =>
  obtain ⟨k,pre,hk,rfl,hp,hJs,hnx⟩:=hrel;by_cases hlt:k<xs.length
  · have hcx:=(hnx.cell (p:=ad.add (xs.length-1-k)) (by rw [aW];exact hb)).trans (hc (xs.length-1-k) (by omega));have hcb:=(hnx.cell (p:=⟨Bs,0,none⟩) hBn).trans IY;obtain ⟨fn,tmps,assign,body,hy,hR⟩:=hY pre ⟨xs.length-1-k,by omega⟩ wr hJs (by have:=congrArg List.length hp.out;simp [uM] at this;omega);dsimp only [adJ] at hy;rw [show ((xs.length-1-k:Nat):Int)=(xs.length:Int)-1-k by omega] at hy;gi_wp2;refine hR.mono ?_;rintro e W3 (⟨rfl,hJ3,hk3⟩ | ⟨rfl,hJx3⟩)
    · gi_wp2;go_roundw;case rel=>exact ⟨k+1,_,by omega,by congr 1;push_cast;omega,by rw [Hid,List.map_append,hp.out,zI];rfl,hJ3,hnx.trans hk3⟩
      case measure=>simp [intOf];omega
    · gi_wp2;exact bodyPost_ret (results_none rfl _ _ _) rfl<|⟨⟨_,rfl⟩,.inr ⟨_,⟨k+1,by omega,by rw [List.map_append,hp.out,zI];rfl⟩,hJx3⟩⟩
  · obtain rfl:k=xs.length:=(by omega);gi_wp2;go_end0;exact ⟨⟨_,rfl⟩,.inl ⟨_,hp.out,hJs⟩⟩
set_option maxRecDepth 100000 in
theorem KV (l Bs:Nat) (A:Option Addr) (c:Nat) {α:Type} (J:List α→World→Prop) (W:World) (IY:W.cell? ⟨Bs,0,none⟩=some (.slice A 0 c)) (h0:J [] W) :CallsIn Fence.wide 3 prog 128 #[.func (.yield l) #[] #[],A0a Bs] W fun e W'=>(∃ v,e = .returned v)∧J [] W':=by
 refine callsIn_of_wp func128 rfl trivial ?_ rfl;simp only [ntmps128,List.size_toArray,List.length_cons,List.length_nil,Nat.reduceAdd,Nat.reduceSub,Array.replicate_succ,Array.replicate_zero,List.push_toArray,List.append_toArray,List.nil_append,List.cons_append];gi_wp2;gi_loopw [3] (fun i wr=>i = .int .i64 (-1)∧J [] wr) (fun _ _=>0);case atStart=>exact ⟨rfl,h0⟩
 case round =>obtain ⟨rfl,hJs⟩:=hrel;gi_wp2;go_end0;exact ⟨⟨_,rfl⟩,hJs⟩
theorem aaI (a:Option Addr) (len cap:Nat) (w:World) :CallsIn Fence.wide 3 prog 86 #[.slice a len cap] w fun e w'=>e = .returned (.func (.func 128) #[] #[A0a w.heap.size])∧w'=w.alloc (.cells #[.slice a len cap] 24):=by refine callsIn_of_wp func86 rfl trivial ?_ rfl;simp only [ntmps86,List.size_toArray,List.length_cons,List.length_nil,Nat.reduceAdd,Nat.reduceSub,Array.replicate_succ,Array.replicate_zero,List.push_toArray,List.append_toArray,List.nil_append,List.cons_append];gi_wp2;go_ret;exact ⟨rfl,rfl⟩
theorem PE (Bs:Nat) (v:Value) (xs:List Nat) (w:World) (IY:Bs<w.heap.size) (hc:w.cell? ⟨Bs,0,none⟩=some v) (hU:U w v xs) :SeqStopsK Fence.wide 3 prog 128 #[A0a Bs] (adJ xs) (Below w.heap.size) (fun ys=>ys.map (·.1)=uM xs.length xs.length) (fun pre=>∃ k,k≤xs.length∧pre.map (·.1)=uM xs.length k) xs.length w:=fun l J Jx W hW _ _ hY h0=>by
 have hc':=(hW.cell (p:=⟨Bs,0,none⟩) IY).trans hc;obtain ⟨A,c,rfl,⟨h1,h2⟩,hx,hr⟩:=hU;rcases Nat.eq_zero_or_pos xs.length with h3 | h3
 · rw [h3] at hc';refine (KV l Bs A c J W hc' h0).mono fun e W' ⟨he,hj⟩=>⟨he,.inl ⟨[],by rw [h3];rfl,hj⟩⟩
 · obtain ⟨ad,rfl,hb,hcell⟩:=hr h3;exact XV l Bs ad c xs h2 w.heap.size hb J Jx hY W IY hc' (fun j hj=>(hW.cell (p:=ad.add j) (by rw [aW];exact hb)).trans (hcell j hj)) h0
end
section
set_option maxRecDepth 100000
theorem uW (w:World) (x y:Int) :Calls prog 64 #[.int .i64 x,.int .i64 y] w fun e w'=>e = .returned (.int .i64 (dA x y))∧w=w':=by
 by_cases h1:x<y
 · have HF:Hid (dA x y = -1):=if_pos h1;go_enter func64,ntmps64;go_wp2;go_ret;exact ⟨by rw [HF.out];rfl,rfl⟩
 · by_cases h2:y<x
   · have HF:Hid (dA x y=1):=(by rw [Hid,dA,if_neg h1,if_pos h2]);clear h1;go_enter func64,ntmps64;go_wp2;go_ret;exact ⟨by rw [HF.out];rfl,rfl⟩
   · have HF:Hid (dA x y=0):=(by rw [Hid,dA,if_neg h1,if_neg h2]);go_enter func64,ntmps64;go_wp2;go_ret;exact ⟨by rw [HF.out];rfl,rfl⟩
theorem KW (w:World) (x y:Int) :Calls prog 87 #[.int .u32 x,.int .u32 y] w fun e w'=>e = .returned (.int .i64 (dA x y))∧w=w':=by
 by_cases h1:x<y
 · have HF:Hid (dA x y = -1):=if_pos h1;go_enter func87,ntmps87;go_wp2;go_ret;exact ⟨by rw [HF.out];rfl,rfl⟩
 · by_cases h2:y<x
   · have HF:Hid (dA x y=1):=(by rw [Hid,dA,if_neg h1,if_pos h2]);clear h1;go_enter func87,ntmps87;go_wp2;go_ret;exact ⟨by rw [HF.out];rfl,rfl⟩
   · have HF:Hid (dA x y=0):=(by rw [Hid,dA,if_neg h1,if_neg h2]);go_enter func87,ntmps87;go_wp2;go_ret;exact ⟨by rw [HF.out];rfl,rfl⟩
end
open Go.Shelf
attribute [local go_sem] Oper.semAt_some
set_option maxRecDepth 100000 in
theorem XW (w:World) (v u:Value) (n m:Nat) (h:Un w v n) (g:Un w u m) (hl:(limbs n).length=(limbs m).length) :CallsIn Fence.wide 4 prog 44 #[v,u] w fun e w'=>e = .returned (.int .i64 (dA n m))∧Below w.heap.size w w':=by
 obtain ⟨A,c,rfl,⟨hc,hm⟩,hx,hr⟩:=id h;obtain ⟨A2,c2,rfl,⟨hc2,hm2⟩,hx2,hr2⟩:=id g;have hl1:((((limbs n).length:Nat):Int) != (((limbs m).length:Nat):Int))=false:=by rw [bne_eq_false_iff_eq,hl]
 have HL:=Lib.hid hl;clear hl;refine callsIn_of_wp_marks func44 rfl trivial ?_ rfl;simp only [ntmps44,List.size_toArray,List.length_cons,List.length_nil,Nat.reduceAdd,Nat.reduceSub,Array.replicate_succ,Array.replicate_zero,List.push_toArray,List.append_toArray,List.nil_append,List.cons_append];gi_wp2_with (refine ⟨trivial,?_⟩;gi_at_call 86;refine (aaI _ _ _ _).mono ?_;rintro e w' ⟨rfl,rfl⟩);obtain ⟨W0,hW0⟩:∃ W0,((w.alloc (.cells #[.slice A2 (limbs m).length c2] 24)).alloc (.cells #[.int .i64 0] 3)).alloc (.cells #[.slice A (limbs n).length c] 24)=W0:=⟨_,rfl⟩;have hB0:Below w.heap.size w W0:=by rw [← hW0];exact (((Below.refl _ w).alloc (Nat.le_refl _) _).alloc (by simp) _).alloc (by simp;omega) _
 have hsz:W0.heap.size=w.heap.size+1+1+1:=by rw [← hW0];simp
 have bB:Boxed W0 w.heap.size 24 (.slice A2 (limbs m).length c2):=by rw [← hW0];exact ((Boxed.new w 24 _).alloc _).alloc _
 have bR:Boxed W0 (w.heap.size+1) 3 (.int .i64 0):=by rw [← hW0];have:=(Boxed.new (w.alloc (.cells #[.slice A2 (limbs m).length c2] 24)) 3 (.int .i64 0)).alloc (.cells #[.slice A (limbs n).length c] 24);rwa [World.size_alloc] at this
 have bA:W0.cell? ⟨w.heap.size+1+1,0,none⟩=some (.slice A (limbs n).length c):=by rw [← hW0];have:=(Boxed.new ((w.alloc (.cells #[.slice A2 (limbs m).length c2] 24)).alloc (.cells #[.int .i64 0] 3)) 24 (.slice A (limbs n).length c)).cell;rwa [World.size_alloc,World.size_alloc] at this
 rw [hW0];clear hW0
 refine wpIn_rangeFunc_ownG rfl (by omega) (gf := 128) (lb:=#[.pointer (some ⟨w.heap.size+1+1,0,none⟩)]) rfl trivial (enters_of func128 (by kernel_rfl) rfl)
  (PE (w.heap.size+1+1) _ (limbs n) W0 (by omega) bA (h.below hB0)) belowK_t (belowK_b (Nat.le_refl _)) (Below.refl _ _) (fun _=>rfl)
  (fun pre W=>((∀ p∈pre,lb (limbs n) p.1=lb (limbs m) p.1)∧W.cell? ⟨w.heap.size,0,none⟩=some (.slice A2 (limbs m).length c2)∧W.cell? ⟨w.heap.size+1,0,none⟩=some (.int .i64 0)∧W.frozen? ⟨w.heap.size+1,0,none⟩=false)∧Below w.heap.size w W)
  (fun c pre W=>(c = .ret∧∃ ini last,pre=ini++[last]∧(∀ p∈ini,lb (limbs n) p.1=lb (limbs m) p.1)∧lb (limbs n) last.1≠lb (limbs m) last.1∧W.cell? ⟨w.heap.size+1,0,none⟩=some (.int .i64 (dA (lb (limbs n) last.1) (lb (limbs m) last.1))))∧Below w.heap.size w W)
  (OwnFrom.and (Own.from (fun s A B row hs hg hr=>⟨hs.1,cell_kept hs.2.1 hg hr,cell_kept hs.2.2.1 hg hr,(frozen_kept hs.2.2.1 hg hr).trans hs.2.2.2⟩) _) (ownFrom_below (Nat.le_refl _) (by omega)))
  (fun c=>OwnFrom.and (Own.from (fun s A B row hs hg hr=>by obtain ⟨hc,ini,last,e1,e2,e3,e4⟩:=hs;exact ⟨hc,ini,last,e1,e2,e3,cell_kept e4 hg hr⟩) _) (ownFrom_below (Nat.le_refl _) (by omega)))
  ⟨⟨by simp,bB.cell,bR.cell,bR.frozen⟩,hB0⟩
  (fun x=>{ tmps:=#[.slice A (limbs n).length c,.slice A2 (limbs m).length c2,undef,A0a w.heap.size,.pointer (some ⟨w.heap.size+1,0,none⟩),.int .i64 (x.1:Int),.int .u32 ((lb (limbs n) x.1:Nat):Int),.slice A (limbs n).length c,.int .i64 ((limbs n).length:Nat),.slice A2 (limbs m).length c2,.int .i64 ((limbs m).length:Nat),.bool false,undef,undef,undef,undef,undef,.slice A (limbs n).length c,.func (.func 128) #[] #[.pointer (some ⟨w.heap.size+1+1,0,none⟩)],.int .i64 (x.1:Int),.int .u32 ((lb (limbs n) x.1:Nat):Int),undef,undef,undef,undef,undef,undef,undef,undef,undef,undef,undef,undef],defers:=[] }) ?assign ?body ?done ?stop
 case assign =>intro l x W K hK;gi_wp2;exact hK
 case body =>
  rintro l pre x W ⟨⟨hp,hcb,hcr,hfr⟩,hB⟩ _;obtain ⟨LW,rfl,hb2,hcell2⟩:=hr2 (by have:=x.2;have:=HL.out;omega);have hlt2:((x.1:Nat):Int)<(limbs m).length:=by have:=x.2;have:=HL.out;omega
  have hc2:=(hB.cell (p:=LW.add x.1) (by rw [aW];exact hb2)).trans (hcell2 x.1 (by have:=x.2;have:=HL.out;omega));by_cases he:lb (limbs n) x.1=lb (limbs m) x.1
  · have ht:((((lb (limbs n) x.1:Nat)):Int) != ((lb (limbs m) x.1:Nat):Int))=false:=(by rw [bne_eq_false_iff_eq,he]);have HX:=Lib.hid he;clear he;gi_wp2;exact ⟨KeepsFrom.refl _ _,Below.refl _ _,⟨fun p hp'=>(List.mem_append.1 hp').elim (hp p) (fun e=>by simp at e;subst e;exact HX.out),hcb,hcr,hfr⟩,hB⟩
  · have ht:((((lb (limbs n) x.1:Nat)):Int) != ((lb (limbs m) x.1:Nat):Int))=true:=(by rw [bne_iff_ne];omega);have HX:=Lib.hid he;clear he;gi_wp2_with (refine ⟨trivial,?_⟩;gi_at_call 87;refine (CallsIn.inRound l (callsIn_wide.2 (KW _ _ _))).mono ?_;rintro e w' ⟨rfl,rfl⟩);exact ⟨(KeepsOthers.setCell _ _ _).from _,⟨rfl,pre,x,rfl,hp,HX.out,World.cell?_setCell_same' _ _ _ (by rw [hcr];rfl)⟩,hB.setCell (p:=⟨w.heap.size+1,0,none⟩) (by simp) _⟩
 case done =>
  rintro D ys W hD hS ⟨⟨hne,hcb,hcr,hfr⟩,hB⟩ hK;have hnm:n=m:=TB (ww HL.out fun j hj=>by have:j∈ys.map (·.1):=(by rw [hS,Jq (Nat.le_refl _)];omega);obtain ⟨p,hp,rfl⟩:=List.mem_map.1 this;exact hne p hp);have HF:Hid (dA n m=0):=by rw [Hid,hnm];exact qD _
  clear hnm hS;gi_wp2;have hK':=(KeepsOthers.setCell W ⟨w.heap.size+1,0,none⟩ (.int .i64 0)).same D _ hK rfl;refine ⟨by simp,.inl ⟨_,_,rfl,run_takeDeferred hK',?_⟩⟩;have Qf:=cell_kept (World.cell?_setCell_same' W ⟨w.heap.size+1,0,none⟩ (.int .i64 0) (by rw [hcr];rfl)) (grownBy_putObj' _ D (.deferred none)) (fun r e=>by cases e;exact ⟨_,hK',rfl⟩);refine ⟨.int .i64 0,?_,by rw [HF.out],(hB.setCell (p:=⟨w.heap.size+1,0,none⟩) (by simp) _).trans (belowK_b (w:=w) (Nat.le_refl _) _ D _ _ (by omega) hK' rfl rfl)⟩;simp [results,Tryz.f44,go_sem,Qf]
 case stop =>rintro D cc pre W hD ⟨k,hk,hpre⟩ ⟨⟨rfl,ini,last,e1,e2,e3,hcr⟩,hB⟩ hK;have HF:Hid (dA (lb (limbs n) last.1) (lb (limbs m) last.1)=dA n m):=XU HL.out last.2 (fun j h1 h2=>by subst e1;rw [List.map_append] at hpre;have hl3:=congrArg List.length hpre;rw [KU] at hl3;simp at hl3;have hk1:k=(k-1)+1:=(by omega);rw [hk1,zI] at hpre;obtain ⟨q1,q2⟩:=List.append_inj' hpre rfl;simp at q2;have:j∈ini.map (·.1):=(by rw [q1,Jq (by omega)];omega);obtain ⟨p,hp,rfl⟩:=List.mem_map.1 this;exact e2 p hp) e3;clear e1 e2 e3 hpre;gi_wp2;refine ⟨by simp,.inl ⟨_,_,rfl,run_takeDeferred hK,?_⟩⟩;have Qf:=cell_kept hcr (grownBy_putObj' _ D (.deferred none)) (fun r e=>by cases e;exact ⟨_,hK,rfl⟩);refine ⟨.int .i64 (dA n m),?_,rfl,hB.trans (belowK_b (w:=w) (Nat.le_refl _) W D _ _ (by omega) hK rfl rfl)⟩;rw [HF.out] at Qf;simp [results,Tryz.f44,go_sem,Qf]
set_option maxRecDepth 100000 in
theorem C9 (w:World) (v u:Value) (n m:Nat) (h:Un w v n) (g:Un w u m) :Calls prog 44 #[v,u] w fun e w'=>e = .returned (.int .i64 (dA n m))∧Below w.heap.size w w':=by
 by_cases hl:(limbs n).length=(limbs m).length
 · exact callsIn_wide.1 (XW w v u n m h g hl)
 · obtain ⟨A,c,rfl,⟨hc,hm⟩,hx,hr⟩:=h;obtain ⟨A2,c2,rfl,⟨hc2,hm2⟩,hx2,hr2⟩:=g;clear hr hr2;have HF:=Lib.hid (XT hl);go_enter func44,ntmps44;go_wp2_with (go_at_call 64;refine (uW _ _ _).mono ?_;rintro e w' ⟨rfl,rfl⟩);refine bodyPost_ret (v:=.int .i64 (dA (limbs n).length (limbs m).length)) (by simp [results,Tryz.f44,go_sem]) rfl ⟨by rw [HF.out],((Below.refl _ w).alloc (Nat.le_refl _) _).alloc (by simp) _⟩
