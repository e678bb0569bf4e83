/- The transform as one row of numbers; the contracts in one form. -/
import Derived.Test.YtofhpfmgopmcmaaDoorH4
namespace Go.Proofs.YtofhpfmgopmcmaaDoor
open Go.RowKit
set_option linter.unusedVariables false
set_option maxHeartbeats 400000

/-- A sum of naturals. -/
def nsum : Nat → (Nat → Nat) → Nat
  | 0, _ => 0
  | n + 1, f => nsum n f + f n
theorem nsum_cast (n : Nat) (f : Nat → Nat) : ((nsum n f : Nat) : Int) = sm n fun i => ((f i : Nat) : Int) := by
  induction n with
  | zero => rfl
  | succ n ih => rw [nsum, sm_succ, ← ih, Int.natCast_add]
theorem nsum_congr {n : Nat} {f g : Nat → Nat} (h : ∀ i, i < n → f i = g i) : nsum n f = nsum n g := by
  induction n with
  | zero => rfl
  | succ n ih => rw [nsum, nsum, ih fun i hi => h i (by omega), h n (by omega)]
theorem nsum_mod (n p : Nat) (f g : Nat → Nat) (h : ∀ i, i < n → f i % p = g i % p) : nsum n f % p = nsum n g % p := by
  induction n with
  | zero => rfl
  | succ n ih => rw [nsum, nsum, Nat.add_mod, ih fun i hi => h i (by omega), h n (by omega), ← Nat.add_mod]
/-- What stands in place j. -/
def dv (p W S n : Nat) (l : List Nat) (j : Nat) : Nat := S * nsum n (fun i => lb l i * W ^ (i * j)) % p
def trv (p W S n : Nat) (l : List Nat) : List Nat := (List.range n).map (dv p W S n l)
theorem trv_len (p W S n : Nat) (l : List Nat) : (trv p W S n l).length = n := by simp [trv]
theorem lb_trv (p W S n : Nat) (l : List Nat) (j : Nat) (h : j < n) : lb (trv p W S n l) j = dv p W S n l j := lb_map _ _ _ h
theorem dv_mod (p W S n : Nat) (l : List Nat) (j : Nat) : dv p W S n l j = dv p (W % p) (S % p) n l j := by
  unfold dv
  rw [mul_mod2, Nat.mul_mod, nsum_mod n p _ (fun i => lb l i * (W % p) ^ (i * j)) (fun i _ => by rw [Nat.mul_mod, ← pow_mod2, ← Nat.mul_mod]), ← Nat.mul_mod]
theorem trv_mod (p W S n : Nat) (l : List Nat) : trv p W S n l = trv p (W % p) (S % p) n l := by
  unfold trv
  exact List.map_congr_left fun j _ => dv_mod p W S n l j
theorem dv_lt (p W S n : Nat) (l : List Nat) (j : Nat) (hp : 0 < p) : dv p W S n l j < p := Nat.mod_lt _ hp
theorem trv_lt (p W S n : Nat) (l : List Nat) (hp : 0 < p) : ∀ x ∈ trv p W S n l, x < p := by
  intro x hx
  obtain ⟨j, _, rfl⟩ := List.mem_map.1 hx
  exact dv_lt _ _ _ _ _ _ hp
theorem dv_eqm (p W S n : Nat) (l : List Nat) (j : Nat) : Eqm (p : Int) ((dv p W S n l j : Nat) : Int) ((S : Int) * dft (W : Int) n (seq l) j) := by
  unfold dv dft seq
  refine (Eqm.nat_mod _ _).trans (Eqm.of_eq ?_)
  rw [Int.natCast_mul, nsum_cast]
  congr 1
theorem TrOut.eq {f : Fd} {k W S : Nat} {l out : List Nat} (h : TrOut f k W S l out) (hp : 0 < f.p) : out = trv f.p W S (2 ^ k) l := by
  refine ext_lb (by rw [h.len, trv_len]) fun j hj => ?_
  rw [h.len] at hj
  rw [lb_trv _ _ _ _ _ _ hj]
  exact ((h.at_ j hj).trans (dv_eqm _ _ _ _ _ _).symm).eq (lb_lt_of hp h.lt _) (dv_lt _ _ _ _ _ _ hp)

theorem tF_B (w : World) (hg : Gl w) (i k : Nat) (hi : i < 3) (hk : k ≤ 16) (v : Value) (l : List Nat) (hl : l.length = 2 ^ k) (hlt : ∀ x ∈ l, x < (fd i).p) (hu : U w v l) (out : List Nat) (ho : trv (fd i).p (rt (fd i) k) 1 (2 ^ k) l = out) :
    Calls Tryd.prog 21 #[.int .i64 (i : Nat), v, .bool false] w fun e w' => ∃ u, e = .returned (.tuple #[u, .int .i64 0]) ∧ U w' u out ∧ Ext w w' :=
  (trans_calls w hg i k hi hk v l hl hlt hu).mono fun e w' ⟨⟨u, o, he, ht, hu⟩, hB⟩ => ⟨u, he, by rw [← ho, ← ht.eq (by have := (fd_fld i).good.p0; omega)]; exact hu, hB⟩
theorem tB_B (w : World) (hg : Gl w) (i k : Nat) (hi : i < 3) (hk : k ≤ 16) (v : Value) (l : List Nat) (hl : l.length = 2 ^ k) (hlt : ∀ x ∈ l, x < (fd i).p) (hu : U w v l) (out : List Nat) (ho : trv (fd i).p (bt (fd i) k) (sh (fd i) (2 ^ k)) (2 ^ k) l = out) :
    Calls Tryd.prog 21 #[.int .i64 (i : Nat), v, .bool true] w fun e w' => ∃ u, e = .returned (.tuple #[u, .int .i64 0]) ∧ U w' u out ∧ Ext w w' :=
  (trans_back w hg i k hi hk v l hl hlt hu).mono fun e w' ⟨⟨u, o, he, ht, hu⟩, hB⟩ => ⟨u, he, by rw [← ho, ← ht.eq (by have := (fd_fld i).good.p0; omega)]; exact hu, hB⟩
theorem tI_B (w : World) (i : Int) (hi : i < 0 ∨ 3 ≤ i) (v : Value) (l : List Nat) (hlen : l.length < 4294967296) (hu : U w v l) (b : Bool) :
    Calls Tryd.prog 21 #[.int .i64 i, v, .bool b] w fun e w' => e = .returned (.tuple #[.slice none 0 0, .int .i64 1]) ∧ Ext w w' :=
  (trans_i w i hi v l hlen hu b).mono fun e w' ⟨h1, h2⟩ => ⟨h1, by rw [← h2]; exact Ext.refl w⟩
theorem tL_B (w : World) (i : Int) (hi1 : 0 ≤ i) (hi2 : i < 3) (v : Value) (l : List Nat) (hlen : l.length < 4294967296) (hu : U w v l) (b : Bool) (hs : ∀ k, k ≤ 16 → l.length ≠ 2 ^ k) :
    Calls Tryd.prog 21 #[.int .i64 i, v, .bool b] w fun e w' => e = .returned (.tuple #[.slice none 0 0, .int .i64 1]) ∧ Ext w w' :=
  (trans_len w i hi1 hi2 v l hlen hu b hs).mono fun e w' ⟨h1, h2⟩ => ⟨h1, by rw [← h2]; exact Ext.refl w⟩
theorem same_B (w : World) (v u : Value) (xs ys : List Nat) (h : U w v xs) (g : U w u ys) (b : Bool) (hb : decide (xs = ys) = b) :
    Calls Tryd.prog 24 #[v, u] w fun e w' => e = .returned (.bool b) ∧ Ext w w' :=
  (same_calls w v u xs ys h g).mono fun e w' ⟨he, n, hw⟩ => ⟨by rw [he, hb], by rw [hw]; exact ext_drewN w n⟩
theorem sums_B (w : World) (v u : Value) (xs ys : List Nat) (h : U3 w v xs) (g : U3 w u ys) (hx1 : ∀ x ∈ xs, x < 79228162514264337593543950336) (hy1 : ∀ x ∈ ys, x < 79228162514264337593543950336) (b : Bool) (hb : decide (xs = ys) = b) :
    Calls Tryd.prog 18 #[v, u] w fun e w' => e = .returned (.bool b) ∧ Ext w w' :=
  (sums_calls w v u xs ys h g hx1 hy1).mono fun e w' ⟨he, n, hw⟩ => ⟨by rw [he, hb], by rw [hw]; exact ext_drewN w n⟩
theorem conv_B (w : World) (v u : Value) (a b : List Nat) (h : U w v a) (g : U w u b) (hal : a.length ≤ 1000000) (hbl : b.length ≤ 1000000) (hs : min a.length b.length ≤ 24) (cs : List Nat) (hc : cvs a b = cs) :
    Calls Tryd.prog 19 #[v, u] w fun e w' => ∃ z, e = .returned z ∧ U3 w' z cs ∧ Ext w w' :=
  (conv_small w v u a b h g hal hbl hs).mono fun e w' ⟨⟨z, he, hz⟩, hB⟩ => ⟨z, he, by rw [← hc]; exact hz, hB⟩
theorem convE_B (w : World) (v u : Value) (a b : List Nat) (h : U w v a) (g : U w u b) (he : a.length = 0 ∨ b.length = 0) :
    Calls Tryd.prog 19 #[v, u] w fun e w' => e = .returned (.slice none 0 0) ∧ Ext w w' :=
  (conv_empty w v u a b h g he).mono fun e w' ⟨h1, h2⟩ => ⟨h1, by rw [← h2]; exact Ext.refl w⟩
theorem prime_B (w : World) (hg : Gl w) (i : Nat) (hi : i < 3) (p : Nat) (hp : (fd i).p = p) :
    Calls Tryd.prog 14 #[.int .i64 (i : Nat)] w fun e w' => e = .returned (.int .u32 (p : Nat)) ∧ Ext w w' :=
  (prime_calls w hg i hi).mono fun e w' ⟨h1, h2⟩ => ⟨by rw [h1, hp], by rw [← h2]; exact Ext.refl w⟩
theorem primeN_B (w : World) (i : Int) (hi : i < 0 ∨ 3 ≤ i) :
    Calls Tryd.prog 14 #[.int .i64 i] w fun e w' => e = .returned (.int .u32 0) ∧ Ext w w' :=
  (prime_none w i hi).mono fun e w' ⟨h1, h2⟩ => ⟨h1, by rw [← h2]; exact Ext.refl w⟩
theorem root_B (w : World) (hg : Gl w) (i k : Nat) (hi : i < 3) (hk : k ≤ 20) (r : Nat) (hr : rt (fd i) k % (fd i).p = r) :
    Calls Tryd.prog 16 #[.int .i64 (i : Nat), .int .i64 (k : Nat)] w fun e w' => e = .returned (.int .u32 (r : Nat)) ∧ Ext w w' :=
  (root_calls w hg i k hi hk).mono fun e w' ⟨h1, h2⟩ => ⟨by rw [h1, hr], h2⟩
theorem rootN_B (w : World) (i k : Int) (hi : i < 0 ∨ 3 ≤ i ∨ k < 0 ∨ 20 < k) :
    Calls Tryd.prog 16 #[.int .i64 i, .int .i64 k] w fun e w' => e = .returned (.int .u32 0) ∧ Ext w w' :=
  (root_none w i k hi).mono fun e w' ⟨h1, h2⟩ => ⟨h1, by rw [← h2]; exact Ext.refl w⟩
theorem U3_lit2 (w : World) (N : Nat) (hN : w.heap.size = N) (cs : List Nat) (hm : cs.length ≤ 1000) : U3 (w.alloc (.cells (L32 (fl cs)).toArray 52)) (.slice (some ⟨N, 0, none⟩) cs.length cs.length) cs := by
  subst hN
  refine Own3.toU (base := w.heap.size) ?_
  have := World.ownsRow_lit (base := w.heap.size) (e := 52) (size := 3) w (L32 (fl cs)).toArray cs.length (Nat.le_refl _) (by unfold maxLen; omega) (by simp [L32_length, fl_len])
  unfold Own3
  simpa using this

/-- Values by squaring. -/
theorem rt_val (f : Fd) (k v : Nat) (h1 : (f.p - 1) / 2 ^ k < 2 ^ 30) (h : pm f.p 30 f.root ((f.p - 1) / 2 ^ k) = v) : rt f k % f.p = v := by
  unfold rt; rw [← pm_eq _ 30 _ _ h1]; exact h
theorem bt_val (f : Fd) (k r v : Nat) (hr : rt f k % f.p = r) (h1 : f.p - 2 < 2 ^ 30) (h : pm f.p 30 r (f.p - 2) = v) : bt f k % f.p = v := by
  unfold bt; rw [← pow_mod2, hr, ← pm_eq _ 30 _ _ h1]; exact h
theorem sh_val (f : Fd) (n v : Nat) (h1 : f.p - 2 < 2 ^ 30) (h : pm f.p 30 n (f.p - 2) = v) : sh f n % f.p = v := by
  unfold sh; rw [← pm_eq _ 30 _ _ h1]; exact h
theorem tr_val (p W S n : Nat) (l out : List Nat) (W' S' : Nat) (hW : W % p = W') (hS : S % p = S') (h : trv p W' S' n l = out) : trv p W S n l = out := by
  rw [trv_mod, hW, hS]; exact h
theorem rt01 : rt (fd 0) 0 % (fd 0).p = 1 := rt_val _ _ _ (by decide +kernel) (by decide +kernel)
theorem rt02 : rt (fd 0) 1 % (fd 0).p = 998244352 := rt_val _ _ _ (by decide +kernel) (by decide +kernel)
theorem rt03 : rt (fd 0) 2 % (fd 0).p = 911660635 := rt_val _ _ _ (by decide +kernel) (by decide +kernel)
theorem rt04 : rt (fd 1) 20 % (fd 1).p = 197868229 := rt_val _ _ _ (by decide +kernel) (by decide +kernel)
theorem rt05 : rt (fd 2) 2 % (fd 2).p = 65249968 := rt_val _ _ _ (by decide +kernel) (by decide +kernel)
theorem rt06 : rt (fd 1) 0 % (fd 1).p = 1 := rt_val _ _ _ (by decide +kernel) (by decide +kernel)
theorem hv1 : trv (fd 0).p (rt (fd 0) 1) 1 (2 ^ 1) [5, 7] = [12, 998244351] := tr_val _ _ _ _ _ _ _ 1 rt02 (by decide +kernel) (by decide +kernel)
theorem hv2 : trv (fd 0).p (bt (fd 0) 1) (sh (fd 0) (2 ^ 1)) (2 ^ 1) [12, 998244351] = [5, 7] :=
  tr_val _ _ _ _ _ _ 998244352 499122177 (bt_val _ _ _ _ rt02 (by decide +kernel) (by decide +kernel)) (sh_val _ _ _ (by decide +kernel) (by decide +kernel)) (by decide +kernel)
theorem hv3 : trv (fd 2).p (rt (fd 2) 2) 1 (2 ^ 2) [1, 2, 3, 4] = [10, 37272223, 167772159, 130499934] := tr_val _ _ _ _ _ _ _ 1 rt05 (by decide +kernel) (by decide +kernel)
theorem hv4 : trv (fd 1).p (bt (fd 1) 0) (sh (fd 1) (2 ^ 0)) (2 ^ 0) [9] = [9] :=
  tr_val _ _ _ _ _ _ 1 1 (bt_val _ _ _ _ rt06 (by decide +kernel) (by decide +kernel)) (sh_val _ _ _ (by decide +kernel) (by decide +kernel)) (by decide +kernel)
theorem hv5 : cvs [4294967295] [4294967295] = [18446744065119617025] := by decide +kernel
theorem hv6 : cvs [1, 2] [3, 4, 5] = [3, 10, 13, 10] := by decide +kernel
theorem no3 : ∀ k, k ≤ 16 → ([1, 2, 3] : List Nat).length ≠ 2 ^ k := by decide +kernel
theorem no0 : ∀ k, k ≤ 16 → ([] : List Nat).length ≠ 2 ^ k := by decide +kernel
end Go.Proofs.YtofhpfmgopmcmaaDoor
