/- Base. -/
import Derived.Test.YtgcieamfidoaoaaGreatDoorGai
import Derived.Deep.CutBlock
set_option linter.all false
set_option maxHeartbeats 8000000
namespace Go.Proofs.YtgcieamfidoaoaaGreatDoor
open Go.Proofs.Tryz
open Go.RowKit
structure GsI (B P D T V U v1 v0 t1 u0 q r:Nat):Prop where
 inv:q*v1+r=t1
 top:U<(q+1)*V
 lt:q<B
theorem PT (B D T v1 v0 t1 u0 q r:Nat) (hD:D=v1*B+v0) (hT:T=t1*B+u0) (hq:q*v1+r=t1):q*D≤T↔q*v0≤r*B+u0:=by
 have h1:q*D=q*v1*B+q*v0:=by rw [hD,Nat.mul_add,Nat.mul_assoc]
 have h2:t1*B=q*v1*B+r*B:=by rw [← hq,Nat.add_mul]
 omega
theorem Yi (B P D T V U v1 v0 vr t1 u0 ur q r:Nat) (hD:D=v1*B+v0) (hT:T=t1*B+u0) (hV:V=D*P+vr) (hU:U=T*P+ur) (hur:ur<P) (h:GsI B P D T V U v1 v0 t1 u0 q r) (hgt:r*B+u0<q*v0):1≤q∧GsI B P D T V U v1 v0 t1 u0 (q-1) (r+v1):=by
 have h1:T<q*D:=Nat.lt_of_not_le fun hle=>by have:=(PT B D T v1 v0 t1 u0 q r hD hT h.inv).1 hle;omega
 have hq:1≤q:=by
  rcases Nat.eq_zero_or_pos q with h0 | h0
  · rw [h0,Nat.zero_mul] at h1;omega
  · exact h0
 refine ⟨hq,?_⟩;obtain ⟨p,rfl⟩:∃ p,q=p+1:=⟨q-1,by omega⟩;refine ⟨?_,?_,by have:=h.lt;omega⟩
 · have:=h.inv;rw [Nat.add_sub_cancel];rw [Nat.add_mul,Nat.one_mul] at this;omega
 · rw [Nat.add_sub_cancel];have h2:(T+1)*P≤(p+1)*D*P:=Nat.mul_le_mul_right P h1;have h3:(p+1)*V=(p+1)*D*P+(p+1)*vr:=(by rw [hV,Nat.mul_add,Nat.mul_assoc]);rw [Nat.add_mul T 1,Nat.one_mul] at h2;omega
theorem abK (B P D T V U v1 v0 vr t1 u0 ur q r:Nat) (hD:D=v1*B+v0) (hT:T=t1*B+u0) (hV:V=D*P+vr) (hU:U=T*P+ur) (Ir:vr≤P) (hBD:B≤D) (h:GsI B P D T V U v1 v0 t1 u0 q r) (hle:q*v0≤r*B+u0):q*V≤U+V:=by
 have h1:=(PT B D T v1 v0 t1 u0 q r hD hT h.inv).2 hle;have h2:q*D*P≤T*P:=Nat.mul_le_mul_right P h1;have h3:q*V=q*D*P+q*vr:=by rw [hV,Nat.mul_add,Nat.mul_assoc]
 have h4:q*vr≤D*P:=Nat.mul_le_mul (by have:=h.lt;omega) Ir;omega
theorem Yj (x q bo v s1 c1 s c2 hi lo b2:Nat) (hx:x<18446744073709551616) (hq:q<18446744073709551616) (hb:bo<18446744073709551616) (hv:v<18446744073709551616) (hp:x*q=18446744073709551616*hi+lo) (hlo:lo<18446744073709551616) (h1:s1+lo=v+18446744073709551616*c1) (hs1:s1<18446744073709551616) (h2:s+bo=s1+18446744073709551616*c2) (hs:s<18446744073709551616) (hb2:hi+c1+c2=b2) :v+18446744073709551616*b2=s+x*q+bo∧b2<18446744073709551616∧hi+c1<18446744073709551616:=by have h3:x*q≤18446744073709551615*18446744073709551615:=Nat.mul_le_mul (by omega) (by omega);refine ⟨by omega,by omega,by omega⟩
structure Yk (B y y1 hi u q r:Nat):Prop where
 inv:q*y1+r=hi
 top:hi*B+u<(q+1)*y
theorem K7 (B y y1 y0 hi u q r:Nat) (hy:y=y1*B+y0) (hu:u<B) (h1:0<y1) (hq:hi/y1=q) (hr:hi%y1=r):Yk B y y1 hi u q r∧r<y1:=by
 have hlt:r<y1:=by rw [← hr];exact Nat.mod_lt _ h1
 have hinv:q*y1+r=hi:=by rw [← hq,← hr,Nat.mul_comm];exact Nat.div_add_mod _ _
 refine ⟨⟨hinv,?_⟩,hlt⟩;have h2:(hi+1)*B≤(q+1)*y1*B:=Nat.mul_le_mul_right B (by rw [Nat.add_mul,Nat.one_mul];omega);have h3:(q+1)*y=(q+1)*y1*B+(q+1)*y0:=by rw [hy,Nat.mul_add,Nat.mul_assoc]
 rw [Nat.add_mul,Nat.one_mul] at h2;omega
theorem PU (B y y1 y0 hi u q r:Nat) (hy:y=y1*B+y0) (hq:q*y1+r=hi):q*y≤hi*B+u↔q*y0≤B*r+u:=by
 have h1:q*y=q*y1*B+q*y0:=by rw [hy,Nat.mul_add,Nat.mul_assoc]
 have h2:hi*B=q*y1*B+B*r:=by rw [← hq,Nat.add_mul,Nat.mul_comm r B]
 omega
theorem PV (B y y1 y0 hi u q r:Nat) (hy:y=y1*B+y0) (hu:u<B) (hh:hi<y) (h:Yk B y y1 hi u q r) (hc:B≤q∨B*r+u<q*y0) :1≤q∧Yk B y y1 hi u (q-1) (r+y1):=by
 have h1:hi*B+u<q*y:=by
  rcases hc with hc | hc
  · have h2:(hi+1)*B≤y*B:=Nat.mul_le_mul_right B hh;have h3:B*y≤q*y:=Nat.mul_le_mul_right y hc;rw [Nat.add_mul,Nat.one_mul] at h2;rw [Nat.mul_comm B y] at h3;omega
  · exact Nat.lt_of_not_le fun hle=>by have:=(PU B y y1 y0 hi u q r hy h.inv).1 hle;omega
 have hq:1≤q:=by
  rcases Nat.eq_zero_or_pos q with h0 | h0
  · rw [h0,Nat.zero_mul] at h1;omega
  · exact h0
 refine ⟨hq,?_⟩;obtain ⟨p,rfl⟩:∃ p,q=p+1:=⟨q-1,by omega⟩;refine ⟨?_,by rw [Nat.add_sub_cancel];exact h1⟩;have:=h.inv;rw [Nat.add_sub_cancel];rw [Nat.add_mul,Nat.one_mul] at this;omega
theorem abL (B y y1 y0 hi u q r:Nat) (hy:y=y1*B+y0) (h0:y0<B) (hh:hi<y) (h:Yk B y y1 hi u q r) (hc:q<B∧q*y0≤B*r+u∨B≤r) :q<B∧q*y≤hi*B+u∧hi*B+u<(q+1)*y:=by
 have hinv:=h.inv
 have hqB:q<B:=by
  rcases hc with hc | hc
  · exact hc.1
  · refine Nat.lt_of_not_le fun hle=>?_;have h2:B*y1≤q*y1:=Nat.mul_le_mul_right y1 hle;rw [Nat.mul_comm B y1] at h2;omega
 refine ⟨hqB,(PU B y y1 y0 hi u q r hy hinv).2 ?_,h.top⟩;rcases hc with hc | hc
 · exact hc.2
 · have h2:q*y0≤B*B:=Nat.mul_le_mul (by omega) (by omega);have h3:B*B≤B*r:=Nat.mul_le_mul_left B hc;omega
theorem Yl (B y hi u1 u0 q1 q0 m r:Nat) (h1:q1*y+m=hi*B+u1) (h0:q0*y+r=m*B+u0):(q1*B+q0)*y+r=hi*(B*B)+(u1*B+u0):=by
 have h2:(q1*y+m)*B=(hi*B+u1)*B:=by rw [h1]
 rw [Nat.add_mul,Nat.add_mul,Nat.mul_assoc hi B B] at h2;rw [Nat.add_mul,Nat.mul_assoc q1 B y,Nat.mul_comm B y,← Nat.mul_assoc q1 y B];omega
theorem Ym (B y hi u q m:Nat) (hm:q*y+m=hi*B+u) (hlt:m<18446744073709551616) :((hi*B%18446744073709551616+u)%18446744073709551616+18446744073709551616-q*y%18446744073709551616)%18446744073709551616=m:=by generalize hi*B=x at *;generalize q*y=z at *;omega
theorem Jr (y n q r:Nat) (h:q*y+r=n) (hr:r<y):n/y=q∧n%y=r:=by
 subst h;refine ⟨?_,?_⟩
 · rw [Nat.mul_comm,Nat.mul_add_div (by omega),Nat.div_eq_of_lt hr,Nat.add_zero]
 · rw [Nat.mul_comm,Nat.mul_add_mod,Nat.mod_eq_of_lt hr]
theorem Ru (w:World) (x:Nat) (h:9223372036854775808≤x) (h2:x<18446744073709551616) :Calls prog 150 #[.int .u64 x] w fun e w'=>e = .returned (.int .i64 64)∧w=w':=by
 have h32:decide ((4294967296:Int)≤(x:Nat))=true:=by rw [decide_eq_true_iff];omega
 have h65:decide ((65536:Int)≤(x:Nat)/4294967296)=true:=by rw [decide_eq_true_iff];omega
 have K8:decide ((256:Int)≤(x:Nat)/4294967296/65536)=true:=by rw [decide_eq_true_iff];omega
 have hI:=fun w=>nM (P:=prog) 9 underlying9 .u8 (x/4294967296/65536/256%256) (by omega) w
 have hB:dI (x/4294967296/65536/256%256)=8:=by
  apply Nat.le_antisymm
  · exact eu (by omega)
  · exact oP (by omega)
 have hv:((x/4294967296/65536/256%256:Nat):Int)=(x:Int)/4294967296/65536/256%256:=by omega
 rw [hv,hB] at hI;clear hv hB;go_enter func150,ntmps150;generalize hT:(ByteArray.mk _:ByteArray)=T;have zL:T=zM:=by rw [← hT];exact qz
 rw [← zL] at hI;clear hT zL h h2;go_wp2;go_ret;exact ⟨rfl,rfl⟩
theorem NT (w:World) (x:Nat) (h:9223372036854775808≤x) (h2:x<18446744073709551616) :Calls prog 242 #[.int .u64 x] w fun e w'=>e = .returned (.int .i64 0)∧w=w':=by go_enter func242,ntmps242;go_wp2_with (fail);refine (Ru _ x h h2).mono ?_;rintro e w' ⟨rfl,rfl⟩;go_wp2;go_ret;exact ⟨rfl,rfl⟩
section
set_option maxRecDepth 100000
theorem Ca (B y y1 y0 hi u q r:Nat) (hy:y=y1*B+y0) (h0:y0<B) (hh:hi<y) (h:Yk B y y1 hi u q r) (hc:q<B∧q*y0≤B*r+u∨B≤r) (d:Nat) (hd:(hi*B+u)/y=d):q=d:=by obtain ⟨_,h1,h2⟩:=abL B y y1 y0 hi u q r hy h0 hh h hc;rw [← hd];exact (Nat.div_eq_of_lt_le h1 h2).symm
theorem K9 (hi l d y m:Nat) (h:d*y+m=hi*4294967296+l) (hm:m<18446744073709551616):∃ x1 x2 x3:Nat,(hi:Int)*4294967296%18446744073709551616=(x1:Int)∧IntKind.u64.wrap ((hi:Int)*4294967296)=(x1:Int)∧((x1:Int)+(l:Int))%18446744073709551616=(x2:Int)∧IntKind.u64.wrap ((x1:Int)+(l:Int))=(x2:Int) ∧(d:Int)*(y:Int)%18446744073709551616=(x3:Int)∧IntKind.u64.wrap ((d:Int)*(y:Int))=(x3:Int)∧((x2:Int)-(x3:Int))%18446744073709551616=(m:Int)∧IntKind.u64.wrap ((x2:Int)-(x3:Int))=(m:Int):=by
 have hw:=Ym 4294967296 y hi l d m h hm;obtain ⟨x1,hx1⟩:∃ x1,hi*4294967296%18446744073709551616=x1:=⟨_,rfl⟩;obtain ⟨x2,hx2⟩:∃ x2,(x1+l)%18446744073709551616=x2:=⟨_,rfl⟩;obtain ⟨x3,hx3⟩:∃ x3,d*y%18446744073709551616=x3:=⟨_,rfl⟩;rw [hx1,hx2,hx3] at hw;have b3:x3<18446744073709551616:=by rw [← hx3];exact Nat.mod_lt _ (by decide)
 have e1:(hi:Int)*4294967296%18446744073709551616=(x1:Int):=by clear hw hx2 hx3 h;omega
 have e2:((x1:Int)+(l:Int))%18446744073709551616=(x2:Int):=by clear hw hx1 hx3 h e1;omega
 have e3:(d:Int)*(y:Int)%18446744073709551616=(x3:Int):=by rw [← hx3,Int.natCast_emod,Int.natCast_mul];rfl
 have e4:((x2:Int)-(x3:Int))%18446744073709551616=(m:Int):=by clear hx1 hx2 hx3 h e1 e2 e3;omega
 refine ⟨x1,x2,x3,e1,?_,e2,?_,e3,?_,e4,?_⟩<;>rw [IntKind.wrap_u64]<;>assumption
theorem Iu (m y1 e s:Nat) (he:m/y1=e) (hs:m%y1=s) (hm:m<18446744073709551616):∃ p:Nat,(m:Int).tdiv (y1:Int)=(e:Int)∧(m:Int)/(y1:Int)=(e:Int)∧IntKind.u64.wrap (e:Int)=(e:Int)∧(e:Int)%18446744073709551616=(e:Int) ∧(e:Int)*(y1:Int)=(p:Int)∧IntKind.u64.wrap (p:Int)=(p:Int)∧(p:Int)%18446744073709551616=(p:Int)∧(m:Int)-(p:Int)=(s:Int)∧IntKind.u64.wrap (s:Int)=(s:Int)∧(s:Int)%18446744073709551616=(s:Int):=by
 have be:e≤m:=by rw [← he];exact Nat.div_le_self _ _
 have h1:(m:Int)/(y1:Int)=(e:Int):=by rw [← he,Int.natCast_ediv]
 have hm2:e*y1+s=m:=by rw [← he,← hs,Nat.mul_comm];exact Nat.div_add_mod _ _
 obtain ⟨p,hp⟩:∃ p,e*y1=p:=⟨_,rfl⟩;have h2:(e:Int)*(y1:Int)=(p:Int):=by rw [← hp,Int.natCast_mul]
 clear hp he hs;have h3:IntKind.u64.wrap (e:Int)=(e:Int):=by rw [IntKind.wrap_u64];omega
 have h4:IntKind.u64.wrap (p:Int)=(p:Int):=by rw [IntKind.wrap_u64];omega
 have h5:IntKind.u64.wrap (s:Int)=(s:Int):=by rw [IntKind.wrap_u64];omega
 grind
theorem Rv (d1 d0 q:Nat) (h:d1*4294967296+d0=q) (hq:q<18446744073709551616):∃ x7:Nat,(d1:Int)*4294967296=(x7:Int)∧IntKind.u64.wrap (x7:Int)=(x7:Int)∧(x7:Int)%18446744073709551616=(x7:Int)∧(x7:Int)+(d0:Int)=(q:Int)∧IntKind.u64.wrap (q:Int)=(q:Int)∧(q:Int)%18446744073709551616=(q:Int):=by obtain ⟨x7,hx7⟩:∃ x7,d1*4294967296=x7:=⟨_,rfl⟩;refine ⟨x7,by omega,by rw [IntKind.wrap_u64];omega,by omega,by omega,by rw [IntKind.wrap_u64];omega,by omega⟩
theorem TP (hi lo y l1 l0 d1 d0 m k q r:Nat) (hl1:lo/4294967296=l1) (hl0:lo%4294967296=l0) (hd:d1*y+m=hi*4294967296+l1) (hk:d0*y+k=m*4294967296+l0) (hky:k<y) (hh:hi<y) (hlo:lo<18446744073709551616) (hq:(hi*18446744073709551616+lo)/y=q) (hr:(hi*18446744073709551616+lo)%y=r):d1*4294967296+d0=q∧q<18446744073709551616∧r=k:=by have hb:=Yl 4294967296 y hi l1 l0 d1 d0 m k hd hk;rw [show hi*(4294967296*4294967296)+(l1*4294967296+l0)=hi*18446744073709551616+lo by omega] at hb;have h:=Jr y _ _ k hb hky;rw [hq,hr] at h;refine ⟨h.1.symm,?_,h.2⟩;rw [← hq];exact Nat.div_lt_of_lt_mul (by have:=Nat.mul_le_mul_right 18446744073709551616 (show hi+1≤y from hh);omega)
theorem Lc (w:World) (hi lo y q r:Nat) (hy:9223372036854775808≤y) (hy2:y<18446744073709551616) (hl:lo<18446744073709551616) (hh:hi<y) (hq:(hi*18446744073709551616+lo)/y=q) (hr:(hi*18446744073709551616+lo)%y=r) :A0k 230 #[.int .u64 hi,.int .u64 lo,.int .u64 y] w (.tuple #[.int .u64 q,.int .u64 r]):=by
 have hy0:((y:Int)==0)=false:=by rw [beq_eq_false_iff_ne];omega
 have ahr:¬ ((y:Int)=0):=by omega
 have hyh:decide ((y:Int)≤(hi:Int))=false:=by rw [decide_eq_false_iff_not];omega
 by_cases h0:hi=0
 · subst h0;rw [Nat.zero_mul,Nat.zero_add] at hq hr;have fq:(lo:Int)/(y:Int)=(q:Int):=(by rw [← hq,Int.natCast_ediv]);have fr:(lo:Int)%(y:Int)=(r:Int):=(by rw [← hr,Int.natCast_emod]);have fq2:(lo:Int).tdiv (y:Int)=(q:Int):=(by rw [Int.tdiv_eq_ediv_of_nonneg (by omega)];exact fq);have fr2:(lo:Int).tmod (y:Int)=(r:Int):=(by rw [Int.tmod_eq_emod_of_nonneg (by omega)];exact fr);have bq:q≤lo:=(by rw [← hq];exact Nat.div_le_self _ _);have br:r<y:=(by rw [← hr];exact Nat.mod_lt _ (by omega));have wq:IntKind.u64.wrap (q:Int)=(q:Int):=(by rw [IntKind.wrap_u64];omega);have wr:IntKind.u64.wrap (r:Int)=(r:Int):=(by rw [IntKind.wrap_u64];omega);have mq:(q:Int)%18446744073709551616=(q:Int):=(by omega);have mr:(r:Int)%18446744073709551616=(r:Int):=(by omega);clear hq hr bq br;go_enter func230,ntmps230;go_wp2_with (go_region);all_goals (go_ret2)
   all_goals exact ⟨rfl,(Ext.refl w).drew⟩
 · have hh0 : ((hi:Int)==0)=false:=(by rw [beq_eq_false_iff_ne];omega);obtain ⟨y1,hy1⟩:∃ y1,y/4294967296=y1:=⟨_,rfl⟩;obtain ⟨y0,ad7⟩:∃ y0,y%4294967296=y0:=⟨_,rfl⟩;obtain ⟨l1,hl1⟩:∃ l1,lo/4294967296=l1:=⟨_,rfl⟩;obtain ⟨l0,hl0⟩:∃ l0,lo%4294967296=l0:=⟨_,rfl⟩;have fy1:(y:Int)/4294967296=(y1:Int):=(by omega);have fl1:(lo:Int)/4294967296=(l1:Int):=(by omega);have fy0:bits .and .u64 (y:Int) 4294967295=(y0:Int):=(by rw [show (4294967295:Int)=((4294967295:Nat):Int) from rfl,u64_and_nat _ _ (by omega) (by decide),show (4294967295:Nat)=2^32-1 from rfl,Nat.and_two_pow_sub_one_eq_mod,show (2:Nat)^32=4294967296 from rfl,ad7]);have fl0:bits .and .u64 (lo:Int) 4294967295=(l0:Int):=(by rw [show (4294967295:Int)=((4294967295:Nat):Int) from rfl,u64_and_nat _ _ (by omega) (by decide),show (4294967295:Nat)=2^32-1 from rfl,Nat.and_two_pow_sub_one_eq_mod,show (2:Nat)^32=4294967296 from rfl,hl0]);have fn:bits .or .u64 (hi:Int) ((lo:Int)/18446744073709551616)=(hi:Int):=(by rw [show (lo:Int)/18446744073709551616=((0:Nat):Int) by omega,u64_or_nat _ _ (by omega) (by decide),Nat.or_zero]);obtain ⟨q1,hq1⟩:∃ q1,hi/y1=q1:=⟨_,rfl⟩;obtain ⟨r1,hr1⟩:∃ r1,hi%y1=r1:=⟨_,rfl⟩;obtain ⟨p1,fq1,ahs,wq1,mq1,fp1,wp1,mp1,fr1,wr1,mr1⟩:=Iu hi y1 q1 r1 hq1 hr1 (by omega);have y1n:¬ ((y1:Int)=0):=(by omega);have yw:IntKind.u64.wrap (y:Int)=(y:Int):=(by rw [IntKind.wrap_u64];omega);have hiw:IntKind.u64.wrap (hi:Int)=(hi:Int):=(by rw [IntKind.wrap_u64];omega);have low:IntKind.u64.wrap (lo:Int)=(lo:Int):=(by rw [IntKind.wrap_u64];omega);have yw2:(y:Int)%18446744073709551616=(y:Int):=(by omega);have aht:(hi:Int)%18446744073709551616=(hi:Int):=(by omega);have ahu:(lo:Int)%18446744073709551616=(lo:Int):=(by omega);have HY:Hid (y=y1*4294967296+y0):=(by show y=y1*4294967296+y0;omega);have zN:y1<4294967296:=(by omega);have yV:l1<4294967296:=(by omega);have yX:l0<4294967296:=(by omega);have zO:y0<4294967296:=(by omega);have yG:0<y1:=(by omega);have zP:q1<18446744073709551616:=(by rw [← hq1];exact Nat.lt_of_le_of_lt (Nat.div_le_self _ _) (by omega));have HDA:Hid (Yk 4294967296 y y1 hi l1 q1 r1∧r1<y1):=K7 4294967296 y y1 y0 hi l1 q1 r1 HY.out yV yG hq1 hr1;obtain ⟨d1,hd1⟩:∃ d1,(hi*4294967296+l1)/y=d1:=⟨_,rfl⟩;obtain ⟨m,hmm⟩:∃ m,(hi*4294967296+l1)%y=m:=⟨_,rfl⟩;have AD:=Lib.hid hd1;have KX:m<y:=(by rw [← hmm];exact Nat.mod_lt _ (by omega));have Yo:m<18446744073709551616:=(by omega);have hdm:d1*y+m=hi*4294967296+l1:=(by rw [← hd1,← hmm,Nat.mul_comm];exact Nat.div_add_mod _ _);obtain ⟨x1,x2,x3,GA0⟩:=K9 hi l1 d1 y m hdm Yo;have GA:=Lib.hid GA0;obtain ⟨e1,he1⟩:∃ e1,m/y1=e1:=⟨_,rfl⟩;obtain ⟨s1,hs1⟩:∃ s1,m%y1=s1:=⟨_,rfl⟩;have zQ:e1<18446744073709551616:=(by rw [← he1];exact Nat.lt_of_le_of_lt (Nat.div_le_self _ _) Yo);obtain ⟨p2,GB0⟩:=Iu m y1 e1 s1 he1 hs1 Yo;have GB:=Lib.hid GB0;have HDB:Hid (Yk 4294967296 y y1 m l0 e1 s1∧s1<y1):=K7 4294967296 y y1 y0 m l0 e1 s1 HY.out yX yG he1 hs1;obtain ⟨d0,hd0⟩:∃ d0,(m*4294967296+l0)/y=d0:=⟨_,rfl⟩;obtain ⟨k,hkk⟩:∃ k,(m*4294967296+l0)%y=k:=⟨_,rfl⟩;have BD:=Lib.hid hd0;have hky:k<y:=(by rw [← hkk];exact Nat.mod_lt _ (by omega));have hdk:d0*y+k=m*4294967296+l0:=(by rw [← hd0,← hkk,Nat.mul_comm];exact Nat.div_add_mod _ _);obtain ⟨x4,x5,x6,GC0⟩:=K9 m l0 d0 y k hdk (by omega);have GC:=Lib.hid GC0;obtain ⟨htq,htb,hkr⟩:=TP hi lo y l1 l0 d1 d0 m k q r hl1 hl0 hdm hdk hky hh hl hq hr;obtain ⟨x7,GD0⟩:=Rv d1 d0 q htq htb;have GD:=Lib.hid GD0;subst hkr;have HN0:=Lib.hid (And.intro hy (And.intro hy2 (And.intro hh (And.intro KX (And.intro zN (And.intro yV (And.intro yX (And.intro zO yG))))))));have HN1:=Lib.hid (And.intro zP zQ);clear GA0 GB0 GC0 GD0 hq hr htq htb hdk hdm hd1 hmm hd0 hkk he1 hs1 hq1 hr1 hy1 ad7 hl1 hl0 hy hy2 KX zN yV yX zO yG zP zQ hl Yo hky;go_enter func230,ntmps230;go_wp2_with (fail);refine (NT _ y HN0.out.1 HN0.out.2.1).mono ?_;rintro e w' ⟨rfl,rfl⟩;go_upto_block 0 with (fail);clear yw hiw low yw2 aht ahu hh hy0 ahr hyh hh0 fy1 fl1 fy0 fl0 fn fq1 ahs wq1 mq1 fp1 wp1 mp1 fr1 wr1 mr1;go_cut [15] from 67 (fun s wx=>s = .int .u64 (d1:Nat)∧wx=w)
   case first =>
    go_wp2;go_loopw [15,16] (fun t s wr=>∃ (q r:Nat),t = .int .u64 (q:Nat)∧s = .int .u64 (r:Nat)∧Hid (Yk 4294967296 y y1 hi l1 q r)∧r<4294967296∧q≤q1∧wr=w) (fun t _ _=>(intOf t).toNat);case atStart=>exact ⟨q1,r1,rfl,rfl,HDA.out.1,Nat.lt_trans HDA.out.2 HN0.out.2.2.2.2.1,Nat.le_refl _,rfl⟩
    case round =>
     obtain ⟨q,r,rfl,rfl,HO,hr,hq,rfl⟩:=hrel;obtain ⟨hy,hy2,hh,KX,zN,yV,yX,zO,yG⟩:=HN0.out;obtain ⟨zP,zQ⟩:=HN1.out;have hrw:IntKind.u64.wrap (r:Int)=(r:Int):=(by rw [IntKind.wrap_u64];omega);have f1:4294967296*(r:Int)=((4294967296*r:Nat):Int):=(by omega);obtain ⟨x1,hx1⟩:∃ x1,4294967296*r=x1:=⟨_,rfl⟩;rw [hx1] at f1;have f2:(x1:Int)%18446744073709551616=(x1:Int):=(by omega);have f2w:IntKind.u64.wrap (x1:Int)=(x1:Int):=(by rw [IntKind.wrap_u64];omega);obtain ⟨x2,hx2⟩:∃ x2,x1+l1=x2:=⟨_,rfl⟩;have f3:(x1:Int)+(l1:Int)=(x2:Int):=(by omega);have f4:(x2:Int)%18446744073709551616=(x2:Int):=(by omega);have f4w:IntKind.u64.wrap (x2:Int)=(x2:Int):=(by rw [IntKind.wrap_u64];omega);by_cases hc:4294967296≤q∨4294967296*r+l1<q*y0
     · have hdn:=PV 4294967296 y y1 y0 hi l1 q r HY.out (by omega) hh HO.out hc;obtain ⟨p,hp⟩:∃ p,q-1=p:=⟨_,rfl⟩;rw [hp] at hdn;obtain ⟨r2,hr2⟩:∃ r2,r+y1=r2:=⟨_,rfl⟩;rw [hr2] at hdn;have hqp:=hdn.1;have HN:=Lib.hid hdn.2;have g1:(q:Int)-1=(p:Int):=(by omega);have g2:(p:Int)%18446744073709551616=(p:Int):=(by omega);have g2w:IntKind.u64.wrap (p:Int)=(p:Int):=(by rw [IntKind.wrap_u64];omega);have g3:(r:Int)+(y1:Int)=(r2:Int):=(by omega);have g4:(r2:Int)%18446744073709551616=(r2:Int):=(by omega);have g4w:IntKind.u64.wrap (r2:Int)=(r2:Int):=by rw [IntKind.wrap_u64];omega
       have HC2:Hid (4294967296≤q∨q<4294967296∧x2<q*y0):=by
        rcases Nat.lt_or_ge q 4294967296 with h | h
        · rcases hc with hc | hc
          · omega
          · exact .inr ⟨h,by omega⟩
        · exact .inl h
       have HR2:Hid (p<q):=(by show p<q;omega);have hpq:p≤q1:=(by omega);clear hc hdn hp hr2 hx1 hx2 hqp HO hr hq;rcases HC2.out with hc | ⟨hc,hc2⟩
       · have hd:decide ((4294967296:Int)≤(q:Int))=true:=(by rw [decide_eq_true_iff];omega);clear hc;by_cases he:4294967296≤r2
         · have hde:decide ((4294967296:Int)≤(r2:Int))=true:=(by rw [decide_eq_true_iff];omega);have HF:=Lib.hid (Ca 4294967296 y y1 y0 hi l1 p r2 HY.out (by omega) hh HN.out (.inr he) d1 AD.out);clear he;clear hy hy2 hh KX zN yV yX zO yG zP zQ;go_wp2;go_meet;case rel=>exact ⟨by rw [HF.out],by first | rfl | trivial⟩
         · have hde:decide ((4294967296:Int)≤(r2:Int))=false:=(by rw [decide_eq_false_iff_not];omega);have he2:r2<4294967296:=(by omega);clear he;clear hy hy2 hh KX zN yV yX zO yG zP zQ;go_wp2;go_roundw;case rel=>exact ⟨p,r2,rfl,rfl,HN,he2,hpq,by first | rfl | trivial⟩
           case measure=>have:=HR2.out;simp [intOf];omega
       · have hd:decide ((4294967296:Int)≤(q:Int))=false:=(by rw [decide_eq_false_iff_not];omega);obtain ⟨z,hz⟩:∃ z,q*y0=z:=⟨_,rfl⟩;rw [hz] at hc2;have hzb:z<18446744073709551616:=(by rw [← hz];exact Nat.lt_of_le_of_lt (Nat.mul_le_mul (show q≤4294967295 by omega) (show y0≤4294967295 by omega)) (by decide));have z1:(q:Int)*(y0:Int)=(z:Int):=(by rw [← hz,Int.natCast_mul]);have z2:(z:Int)%18446744073709551616=(z:Int):=(by omega);have z2w:IntKind.u64.wrap (z:Int)=(z:Int):=(by rw [IntKind.wrap_u64];omega);clear hc hz hzb;by_cases he:4294967296≤r2
         · have hde:decide ((4294967296:Int)≤(r2:Int))=true:=(by rw [decide_eq_true_iff];omega);have HF:=Lib.hid (Ca 4294967296 y y1 y0 hi l1 p r2 HY.out (by omega) hh HN.out (.inr he) d1 AD.out);clear he;clear hy hy2 hh KX zN yV yX zO yG zP zQ;go_wp2;go_meet;case rel=>exact ⟨by rw [HF.out],by first | rfl | trivial⟩
         · have hde:decide ((4294967296:Int)≤(r2:Int))=false:=(by rw [decide_eq_false_iff_not];omega);have he2:r2<4294967296:=(by omega);clear he;clear hy hy2 hh KX zN yV yX zO yG zP zQ;go_wp2;go_roundw;case rel=>exact ⟨p,r2,rfl,rfl,HN,he2,hpq,by first | rfl | trivial⟩
           case measure=>have:=HR2.out;simp [intOf];omega
     · have hq2:q<4294967296:=(by omega);have hq3:q*y0≤4294967296*r+l1:=(by omega);have HF:=Lib.hid (Ca 4294967296 y y1 y0 hi l1 q r HY.out (by omega) hh HO.out (.inl ⟨hq2,hq3⟩) d1 AD.out);have hd:decide ((4294967296:Int)≤(q:Int))=false:=(by rw [decide_eq_false_iff_not];omega);obtain ⟨z,hz⟩:∃ z,q*y0=z:=⟨_,rfl⟩;rw [hz] at hq3 hc;have z1:(q:Int)*(y0:Int)=(z:Int):=(by rw [← hz,Int.natCast_mul]);have z2:(z:Int)%18446744073709551616=(z:Int):=(by omega);have z2w:IntKind.u64.wrap (z:Int)=(z:Int):=(by rw [IntKind.wrap_u64];omega);have hn2:¬ x2<z:=(by omega);clear hc hq2 hq3 hz hx1 hx2 HO hr hq;clear hy hy2 hh KX zN yV yX zO yG zP zQ;go_wp2;go_meet;case rel=>exact ⟨by rw [HF.out],by first | rfl | trivial⟩
   case rest =>
    obtain ⟨rfl,hwc⟩:=hcut;subst wc;obtain ⟨A1,A1w,A2,A2w,A3,A3w,A4,A4w⟩:=GA.out;obtain ⟨B1,B1b,B1w,B1m,B2,B2w,B2m,B3,B3w,B3m⟩:=GB.out;go_upto_block 2 with (fail);clear A1 A1w A2 A2w A3 A3w A4 A4w B1 B1b B1w B1m B2 B2w B2m B3 B3w B3m y1n GA GB;go_cut [18] from 102 (fun s wx=>s = .int .u64 (d0:Nat)∧wx=w)
    case first =>
     go_wp2;go_loopw [18,16] (fun t s wr=>∃ (q r:Nat),t = .int .u64 (q:Nat)∧s = .int .u64 (r:Nat)∧Hid (Yk 4294967296 y y1 m l0 q r)∧r<4294967296∧q≤e1∧wr=w) (fun t _ _=>(intOf t).toNat);case atStart=>exact ⟨e1,s1,rfl,rfl,HDB.out.1,Nat.lt_trans HDB.out.2 HN0.out.2.2.2.2.1,Nat.le_refl _,rfl⟩
     case round =>
      obtain ⟨q,r,rfl,rfl,HO,hr,hq,rfl⟩:=hrel;obtain ⟨hy,hy2,hh,KX,zN,yV,yX,zO,yG⟩:=HN0.out;obtain ⟨zP,zQ⟩:=HN1.out;have hrw:IntKind.u64.wrap (r:Int)=(r:Int):=(by rw [IntKind.wrap_u64];omega);have f1:4294967296*(r:Int)=((4294967296*r:Nat):Int):=(by omega);obtain ⟨x1,hx1⟩:∃ x1,4294967296*r=x1:=⟨_,rfl⟩;rw [hx1] at f1;have f2:(x1:Int)%18446744073709551616=(x1:Int):=(by omega);have f2w:IntKind.u64.wrap (x1:Int)=(x1:Int):=(by rw [IntKind.wrap_u64];omega);obtain ⟨x2,hx2⟩:∃ x2,x1+l0=x2:=⟨_,rfl⟩;have f3:(x1:Int)+(l0:Int)=(x2:Int):=(by omega);have f4:(x2:Int)%18446744073709551616=(x2:Int):=(by omega);have f4w:IntKind.u64.wrap (x2:Int)=(x2:Int):=(by rw [IntKind.wrap_u64];omega);by_cases hc:4294967296≤q∨4294967296*r+l0<q*y0
      · have hdn:=PV 4294967296 y y1 y0 m l0 q r HY.out (by omega) KX HO.out hc;obtain ⟨p,hp⟩:∃ p,q-1=p:=⟨_,rfl⟩;rw [hp] at hdn;obtain ⟨r2,hr2⟩:∃ r2,r+y1=r2:=⟨_,rfl⟩;rw [hr2] at hdn;have hqp:=hdn.1;have HN:=Lib.hid hdn.2;have g1:(q:Int)-1=(p:Int):=(by omega);have g2:(p:Int)%18446744073709551616=(p:Int):=(by omega);have g2w:IntKind.u64.wrap (p:Int)=(p:Int):=(by rw [IntKind.wrap_u64];omega);have g3:(r:Int)+(y1:Int)=(r2:Int):=(by omega);have g4:(r2:Int)%18446744073709551616=(r2:Int):=(by omega);have g4w:IntKind.u64.wrap (r2:Int)=(r2:Int):=by rw [IntKind.wrap_u64];omega
        have HC2:Hid (4294967296≤q∨q<4294967296∧x2<q*y0):=by
         rcases Nat.lt_or_ge q 4294967296 with h | h
         · rcases hc with hc | hc
           · omega
           · exact .inr ⟨h,by omega⟩
         · exact .inl h
        have HR2:Hid (p<q):=(by show p<q;omega);have hpq:p≤e1:=(by omega);clear hc hdn hp hr2 hx1 hx2 hqp HO hr hq;rcases HC2.out with hc | ⟨hc,hc2⟩
        · have hd:decide ((4294967296:Int)≤(q:Int))=true:=(by rw [decide_eq_true_iff];omega);clear hc;by_cases he:4294967296≤r2
          · have hde:decide ((4294967296:Int)≤(r2:Int))=true:=(by rw [decide_eq_true_iff];omega);have HF:=Lib.hid (Ca 4294967296 y y1 y0 m l0 p r2 HY.out (by omega) KX HN.out (.inr he) d0 BD.out);clear he;clear hy hy2 hh KX zN yV yX zO yG zP zQ;go_wp2;go_meet;case rel=>exact ⟨by rw [HF.out],by first | rfl | trivial⟩
          · have hde:decide ((4294967296:Int)≤(r2:Int))=false:=(by rw [decide_eq_false_iff_not];omega);have he2:r2<4294967296:=(by omega);clear he;clear hy hy2 hh KX zN yV yX zO yG zP zQ;go_wp2;go_roundw;case rel=>exact ⟨p,r2,rfl,rfl,HN,he2,hpq,by first | rfl | trivial⟩
            case measure=>have:=HR2.out;simp [intOf];omega
        · have hd:decide ((4294967296:Int)≤(q:Int))=false:=(by rw [decide_eq_false_iff_not];omega);obtain ⟨z,hz⟩:∃ z,q*y0=z:=⟨_,rfl⟩;rw [hz] at hc2;have hzb:z<18446744073709551616:=(by rw [← hz];exact Nat.lt_of_le_of_lt (Nat.mul_le_mul (show q≤4294967295 by omega) (show y0≤4294967295 by omega)) (by decide));have z1:(q:Int)*(y0:Int)=(z:Int):=(by rw [← hz,Int.natCast_mul]);have z2:(z:Int)%18446744073709551616=(z:Int):=(by omega);have z2w:IntKind.u64.wrap (z:Int)=(z:Int):=(by rw [IntKind.wrap_u64];omega);clear hc hz hzb;by_cases he:4294967296≤r2
          · have hde:decide ((4294967296:Int)≤(r2:Int))=true:=(by rw [decide_eq_true_iff];omega);have HF:=Lib.hid (Ca 4294967296 y y1 y0 m l0 p r2 HY.out (by omega) KX HN.out (.inr he) d0 BD.out);clear he;clear hy hy2 hh KX zN yV yX zO yG zP zQ;go_wp2;go_meet;case rel=>exact ⟨by rw [HF.out],by first | rfl | trivial⟩
          · have hde:decide ((4294967296:Int)≤(r2:Int))=false:=(by rw [decide_eq_false_iff_not];omega);have he2:r2<4294967296:=(by omega);clear he;clear hy hy2 hh KX zN yV yX zO yG zP zQ;go_wp2;go_roundw;case rel=>exact ⟨p,r2,rfl,rfl,HN,he2,hpq,by first | rfl | trivial⟩
            case measure=>have:=HR2.out;simp [intOf];omega
      · have hq2:q<4294967296:=(by omega);have hq3:q*y0≤4294967296*r+l0:=(by omega);have HF:=Lib.hid (Ca 4294967296 y y1 y0 m l0 q r HY.out (by omega) KX HO.out (.inl ⟨hq2,hq3⟩) d0 BD.out);have hd:decide ((4294967296:Int)≤(q:Int))=false:=(by rw [decide_eq_false_iff_not];omega);obtain ⟨z,hz⟩:∃ z,q*y0=z:=⟨_,rfl⟩;rw [hz] at hq3 hc;have z1:(q:Int)*(y0:Int)=(z:Int):=(by rw [← hz,Int.natCast_mul]);have z2:(z:Int)%18446744073709551616=(z:Int):=(by omega);have z2w:IntKind.u64.wrap (z:Int)=(z:Int):=(by rw [IntKind.wrap_u64];omega);have hn2:¬ x2<z:=(by omega);clear hc hq2 hq3 hz hx1 hx2 HO hr hq;clear hy hy2 hh KX zN yV yX zO yG zP zQ;go_wp2;go_meet;case rel=>exact ⟨by rw [HF.out],by first | rfl | trivial⟩
    case rest =>obtain ⟨rfl,hwc⟩:=hcut;subst wc;obtain ⟨C1,C1w,C2,C2w,C3,C3w,C4,C4w⟩:=GC.out;obtain ⟨D2,D2w,D2m,D3,D3w,D3m⟩:=GD.out;go_wp2;go_ret2;exact ⟨rfl,Ext.refl _⟩
end
theorem abM (A b bit Q r:Nat) (hQ:A/b=Q) (hr:A%b=r) (hlt:2*r+bit<b):(2*A+bit)/b=2*Q∧(2*A+bit)%b=2*r+bit:=by
 have h:=Nat.div_add_mod A b;rw [hQ,hr] at h;have h1:2*A+bit=(2*r+bit)+b*(2*Q):=by rw [Nat.mul_left_comm b 2 Q];omega
 rw [h1];refine ⟨?_,?_⟩
 · rw [Nat.add_mul_div_left _ _ (by omega),Nat.div_eq_of_lt hlt,Nat.zero_add]
 · rw [Nat.add_mul_mod_self_left,Nat.mod_eq_of_lt hlt]
theorem Yn (A b bit Q r:Nat) (hb:0<b) (hbit:bit≤1) (hQ:A/b=Q) (hr:A%b=r) (hge:b≤2*r+bit):(2*A+bit)/b=2*Q+1∧(2*A+bit)%b=2*r+bit-b:=by
 have h:=Nat.div_add_mod A b;have hrl:r<b:=by rw [← hr];exact Nat.mod_lt _ hb
 rw [hQ,hr] at h;have h1:2*A+bit=(2*r+bit-b)+b*(2*Q+1):=by rw [Nat.mul_add,Nat.mul_left_comm b 2 Q];omega
 rw [h1];have hlt:2*r+bit-b<b:=by omega
 refine ⟨?_,?_⟩
 · rw [Nat.add_mul_div_left _ _ hb,Nat.div_eq_of_lt hlt,Nat.zero_add]
 · rw [Nat.add_mul_mod_self_left,Nat.mod_eq_of_lt hlt]
