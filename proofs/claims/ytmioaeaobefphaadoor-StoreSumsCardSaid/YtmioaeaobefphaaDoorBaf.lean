/- CRC-32, records of bytes, what a log tells: plain mathematics. -/
import Derived.Test.YtmioaeaobefphaaDoorBad
import Derived.Test.YtmioaeaobefphaaDoorProg

/-! CRC-32 on numbers. -/
namespace Go.Proofs.YtmioaeaobefphaaDoor.T
set_option linter.unusedVariables false
def poly : Nat := 3988292384
/-- One bit. -/
def s1 (c : Nat) : Nat := if c % 2 = 1 then c / 2 ^^^ 3988292384 else c / 2
def s4 (c : Nat) : Nat := s1 (s1 (s1 (s1 c)))
def s8 (c : Nat) : Nat := s4 (s4 c)
/-- The rest of bytes. -/
def crc (c : Nat) : List Nat → Nat
  | [] => c
  | x :: l => crc (s8 (c ^^^ x)) l
theorem crc_append (c : Nat) (a b : List Nat) : crc c (a ++ b) = crc (crc c a) b := by
  induction a generalizing c with
  | nil => rfl
  | cons x a ih => exact ih _
theorem s1_bits (c : Nat) (i : Nat) : (s1 c).testBit i = ((c.testBit (i + 1)) != (c.testBit 0 && Nat.testBit 3988292384 i)) := by
  unfold s1
  have h0 : c.testBit 0 = decide (c % 2 = 1) := Nat.testBit_zero c
  by_cases hc : c % 2 = 1
  · rw [if_pos hc, Nat.testBit_xor, h0, Nat.testBit_add_one]; simp [hc]
  · rw [if_neg hc, h0, Nat.testBit_add_one]; simp [hc]
theorem s1_lt (c : Nat) (h : c < 2 ^ 32) : s1 c < 2 ^ 32 := by
  unfold s1
  split
  · exact Nat.xor_lt_two_pow (by omega) (by omega)
  · omega
theorem s1_xor (a b : Nat) : s1 (a ^^^ b) = s1 a ^^^ s1 b := by
  have h2 : (a ^^^ b) / 2 = a / 2 ^^^ b / 2 := Nat.xor_div_two
  have hm : (a ^^^ b) % 2 = (a % 2 + b % 2) % 2 := by
    have := Nat.testBit_xor a b 0
    simp only [Nat.testBit_zero] at this
    rcases Nat.mod_two_eq_zero_or_one a with h | h <;> rcases Nat.mod_two_eq_zero_or_one b with k | k <;> rcases Nat.mod_two_eq_zero_or_one (a ^^^ b) with q | q <;> simp [h, k, q] at this ⊢
  unfold s1
  rw [hm, h2]
  rcases Nat.mod_two_eq_zero_or_one a with h | h <;> rcases Nat.mod_two_eq_zero_or_one b with k | k <;> simp [h, k]
  · rw [Nat.xor_assoc]
  · rw [Nat.xor_assoc, Nat.xor_assoc, Nat.xor_comm 3988292384 (b/2)]
  · rw [Nat.xor_assoc, ← Nat.xor_assoc 3988292384, Nat.xor_comm 3988292384 (b/2), Nat.xor_assoc, Nat.xor_self, Nat.xor_zero]
theorem s1_inj {a b : Nat} (ha : a < 2 ^ 32) (hb : b < 2 ^ 32) (h : s1 a = s1 b) : a = b := by
  have z : s1 (a ^^^ b) = 0 := by rw [s1_xor, h, Nat.xor_self]
  have hl : a ^^^ b < 2 ^ 32 := Nat.xor_lt_two_pow ha hb
  have e : a ^^^ b = 0 := by
    generalize a ^^^ b = c at z hl
    unfold s1 at z
    split at z
    · have h1 : c / 2 = 3988292384 := by
        have := congrArg (· ^^^ 3988292384) z
        simpa [Nat.xor_assoc] using this
      omega
    · omega
  have := congrArg (· ^^^ b) e
  simpa [Nat.xor_assoc] using this
theorem s4_lt (c : Nat) (h : c < 2 ^ 32) : s4 c < 2 ^ 32 := s1_lt _ (s1_lt _ (s1_lt _ (s1_lt _ h)))
theorem s8_lt (c : Nat) (h : c < 2 ^ 32) : s8 c < 2 ^ 32 := s4_lt _ (s4_lt _ h)
theorem s4_xor (a b : Nat) : s4 (a ^^^ b) = s4 a ^^^ s4 b := by unfold s4; rw [s1_xor, s1_xor, s1_xor, s1_xor]
theorem s8_xor (a b : Nat) : s8 (a ^^^ b) = s8 a ^^^ s8 b := by unfold s8; rw [s4_xor, s4_xor]
theorem s4_inj {a b : Nat} (ha : a < 2 ^ 32) (hb : b < 2 ^ 32) (h : s4 a = s4 b) : a = b :=
  s1_inj ha hb (s1_inj (s1_lt _ ha) (s1_lt _ hb) (s1_inj (s1_lt _ (s1_lt _ ha)) (s1_lt _ (s1_lt _ hb)) (s1_inj (s1_lt _ (s1_lt _ (s1_lt _ ha))) (s1_lt _ (s1_lt _ (s1_lt _ hb))) h)))
theorem s8_inj {a b : Nat} (ha : a < 2 ^ 32) (hb : b < 2 ^ 32) (h : s8 a = s8 b) : a = b := s4_inj ha hb (s4_inj (s4_lt _ ha) (s4_lt _ hb) h)
/-- The table. -/
def tb : List Nat := [0, 498536548, 997073096, 651767980, 1994146192, 1802195444, 1303535960, 1342533948, 3988292384, 4027552580, 3604390888, 3412177804, 2607071920, 2262029012, 2685067896, 3183342108]
theorem s4_even (q : Nat) : s4 (16 * q) = q := by
  have e : ∀ m, s1 (2 * m) = m := fun m => by unfold s1; rw [if_neg (by omega)]; omega
  unfold s4
  rw [show 16 * q = 2 * (2 * (2 * (2 * q))) by omega, e, e, e, e]
theorem split16 (c : Nat) : c = (16 * (c / 16)) ^^^ (c % 16) := by
  have h := Nat.shiftLeft_add_eq_or_of_lt (i := 4) (a := c / 16) (b := c % 16) (by omega)
  have h2 : (c / 16) <<< 4 = 16 * (c / 16) := by rw [Nat.shiftLeft_eq]; omega
  rw [h2] at h
  apply Nat.eq_of_testBit_eq
  intro i
  have h3 : 16 * (c / 16) + c % 16 = c := by omega
  rw [h3] at h
  conv => lhs; rw [h]
  rw [Nat.testBit_or, Nat.testBit_xor, ← h2, Nat.testBit_shiftLeft]
  have h4 : Nat.testBit (c % 16) i = (decide (i < 4) && c.testBit i) := by
    rw [show 16 = 2 ^ 4 by rfl, Nat.testBit_mod_two_pow]
  rw [h4]
  by_cases hi : 4 ≤ i
  · have : ¬ i < 4 := by omega
    simp [hi, this]
  · simp [hi]
theorem s4_tab (c : Nat) : s4 c = c / 16 ^^^ s4 (c % 16) := by
  conv => lhs; rw [split16 c]
  rw [s4_xor, s4_even]
theorem s4_tb {c : Nat} (h : c < 16) : tb[c]? = some (s4 c) := by
  rcases c with _ | _ | _ | _ | _ | _ | _ | _ | _ | _ | _ | _ | _ | _ | _ | _ | c
  all_goals first | rfl | omega
/-- The program's step of one byte, by two nibbles. -/
theorem s8_nib (c x : Nat) (hx : x < 256) : s8 (c ^^^ x) = (c / 16 ^^^ s4 ((c ^^^ x) % 16)) / 16 ^^^ s4 (((c / 16 ^^^ s4 ((c ^^^ x) % 16)) ^^^ x / 16) % 16) := by
  have hd : ∀ a b : Nat, (a ^^^ b) / 16 = a / 16 ^^^ b / 16 := fun a b => by
    have := Nat.shiftRight_xor_distrib (a := a) (b := b) (i := 4)
    simpa [Nat.shiftRight_eq_div_pow] using this
  have e1 : s4 (c ^^^ x) = (c / 16 ^^^ s4 ((c ^^^ x) % 16)) ^^^ x / 16 := by
    rw [s4_tab, hd, Nat.xor_assoc, Nat.xor_comm (x / 16), ← Nat.xor_assoc]
  unfold s8
  rw [e1]
  generalize c / 16 ^^^ s4 ((c ^^^ x) % 16) = r
  rw [s4_tab (r ^^^ x / 16), hd, show x / 16 / 16 = 0 by omega, Nat.xor_zero]
theorem crc_lt : ∀ (l : List Nat) (c : Nat), c < 2 ^ 32 → (∀ x ∈ l, x < 256) → crc c l < 2 ^ 32
  | [], _, h, _ => h
  | x :: l, c, h, hl => crc_lt l _ (s8_lt _ (Nat.xor_lt_two_pow h (Nat.lt_trans (hl x (by simp)) (by omega)))) fun y hy => hl y (by simp [hy])
/-- From different rests the same bytes lead to different ones. -/
theorem crc_inj : ∀ (l : List Nat) (a b : Nat), a < 2 ^ 32 → b < 2 ^ 32 → (∀ x ∈ l, x < 256) → crc a l = crc b l → a = b
  | [], _, _, _, _, _, h => h
  | x :: l, a, b, ha, hb, hl, h => by
    have hx : x < 2 ^ 32 := Nat.lt_trans (hl x (by simp)) (by omega)
    have := crc_inj l _ _ (s8_lt _ (Nat.xor_lt_two_pow ha hx)) (s8_lt _ (Nat.xor_lt_two_pow hb hx)) (fun y hy => hl y (by simp [hy])) h
    have := s8_inj (Nat.xor_lt_two_pow ha hx) (Nat.xor_lt_two_pow hb hx) this
    have := congrArg (· ^^^ x) this
    simpa [Nat.xor_assoc] using this
/-- One byte is another one. -/
theorem crc_other (a b : List Nat) (x y c : Nat) (hc : c < 2 ^ 32) (ha : ∀ z ∈ a, z < 256) (hb : ∀ z ∈ b, z < 256) (hx : x < 256) (hy : y < 256) (hne : x ≠ y) : crc c (a ++ x :: b) ≠ crc c (a ++ y :: b) := by
  intro h
  rw [crc_append, crc_append] at h
  have hc' := crc_lt a c hc ha
  generalize crc c a = d at h hc'
  have hx' : x < 2 ^ 32 := Nat.lt_trans hx (by omega)
  have hy' : y < 2 ^ 32 := Nat.lt_trans hy (by omega)
  have h1 := crc_inj b _ _ (s8_lt _ (Nat.xor_lt_two_pow hc' hx')) (s8_lt _ (Nat.xor_lt_two_pow hc' hy')) hb h
  have h2 := s8_inj (Nat.xor_lt_two_pow hc' hx') (Nat.xor_lt_two_pow hc' hy') h1
  have := congrArg (d ^^^ ·) h2
  simp only [← Nat.xor_assoc, Nat.xor_self, Nat.zero_xor] at this
  exact hne this
/-- Bit by bit. -/
theorem crc_xor3 : ∀ (a b z : List Nat) (c d e : Nat), a.length = b.length → a.length = z.length → crc (c ^^^ d ^^^ e) ((a.zipWith (· ^^^ ·) b).zipWith (· ^^^ ·) z) = crc c a ^^^ crc d b ^^^ crc e z
  | [], [], [], _, _, _, _, _ => rfl
  | x :: a, y :: b, u :: z, c, d, e, h1, h2 => by
    show crc (s8 (c ^^^ d ^^^ e ^^^ (x ^^^ y ^^^ u))) _ = _
    rw [show c ^^^ d ^^^ e ^^^ (x ^^^ y ^^^ u) = (c ^^^ x) ^^^ (d ^^^ y) ^^^ (e ^^^ u) by ac_rfl, s8_xor, s8_xor]
    exact crc_xor3 a b z _ _ _ (by simpa using h1) (by simpa using h2)
end Go.Proofs.YtmioaeaobefphaaDoor.T
/-! Records of bytes. -/
namespace Go.Proofs.YtmioaeaobefphaaDoor.T
set_option linter.unusedVariables false
abbrev Byt := List UInt8
def nb (l : Byt) : List Nat := l.map UInt8.toNat
theorem nb_lt (l : Byt) : ∀ x ∈ nb l, x < 256 := fun x hx => by
  unfold nb at hx
  obtain ⟨u, _, rfl⟩ := List.mem_map.1 hx
  exact u.toNat_lt
theorem nb_append (a b : Byt) : nb (a ++ b) = nb a ++ nb b := List.map_append
def csum (l : Byt) : Nat := crc 4294967295 (nb l) ^^^ 4294967295
theorem csum_lt (l : Byt) : csum l < 4294967296 := Nat.xor_lt_two_pow (n := 32) (crc_lt (nb l) _ (by omega) (nb_lt l)) (by omega)
def four (n : Nat) : Byt := [UInt8.ofNat n, UInt8.ofNat (n / 256), UInt8.ofNat (n / 65536), UInt8.ofNat (n / 16777216)]
def bt (l : Byt) (i : Nat) : Nat := (l[i]?.getD 0).toNat
def number (l : Byt) : Nat := bt l 0 + 256 * bt l 1 + 65536 * bt l 2 + 16777216 * bt l 3
theorem bt_lt (l : Byt) (i : Nat) : bt l i < 256 := UInt8.toNat_lt _
theorem number_lt (l : Byt) : number l < 4294967296 := by
  have := bt_lt l 0; have := bt_lt l 1; have := bt_lt l 2; have := bt_lt l 3
  unfold number; omega
theorem four_len (n : Nat) : (four n).length = 4 := rfl
theorem number_four (n : Nat) (h : n < 4294967296) (b : Byt) : number (four n ++ b) = n := by
  simp only [number, bt, four, List.cons_append, List.getElem?_cons_zero, List.getElem?_cons_succ, Option.getD_some, UInt8.toNat_ofNat']
  omega
theorem number_take (l : Byt) (k : Nat) (h : 4 ≤ k) : number (l.take k) = number l := by
  unfold number bt
  rw [List.getElem?_take_of_lt (by omega), List.getElem?_take_of_lt (by omega), List.getElem?_take_of_lt (by omega), List.getElem?_take_of_lt (by omega)]
theorem number_append (a b : Byt) (h : 4 ≤ a.length) : number (a ++ b) = number a := by
  unfold number bt
  rw [List.getElem?_append_left (by omega), List.getElem?_append_left (by omega), List.getElem?_append_left (by omega), List.getElem?_append_left (by omega)]
theorem four_number (l : Byt) (h : l.length = 4) : four (number l) = l := by
  match l, h with
  | [a, b, c, d], _ =>
    have ha := a.toNat_lt; have hb := b.toNat_lt; have hc := c.toNat_lt; have hd := d.toNat_lt
    have key : ∀ (x : UInt8) (n : Nat), n % 256 = x.toNat → UInt8.ofNat n = x := fun x n h => by
      apply UInt8.toNat_inj.1
      rw [UInt8.toNat_ofNat']; exact h
    simp only [number, bt, four, List.getElem?_cons_zero, List.getElem?_cons_succ, Option.getD_some]
    rw [key a _ (by omega), key b _ (by omega), key c _ (by omega), key d _ (by omega)]
/-- An entry: its name, its text. -/
abbrev Ent := Byt × Byt
def May (e : Ent) : Prop := 1 ≤ e.1.length ∧ e.1.length ≤ 20 ∧ e.2.length ≤ 20000
instance (e : Ent) : Decidable (May e) := by unfold May; infer_instance
def body (e : Ent) : Byt := four (1 + e.1.length + e.2.length) ++ UInt8.ofNat e.1.length :: (e.1 ++ e.2)
def recd (e : Ent) : Byt := body e ++ four (csum (body e))
theorem body_len (e : Ent) : (body e).length = 5 + e.1.length + e.2.length := by simp [body, four_len]; omega
theorem recd_len (e : Ent) : (recd e).length = 9 + e.1.length + e.2.length := by simp [recd, body_len, four_len]; omega
/-- What a log begins with: it is cut (no); its sum is wrong (yes, none); an entry, and how many bytes. -/
def one (b : Byt) : Option (Option (Ent × Nat)) :=
  if b.length < 8 ∨ b.length - 8 < number b then none
  else some (if csum (b.take (number b + 4)) ≠ number (b.drop (number b + 4)) then none
    else match (b.take (number b + 4)).drop 4 with
      | [] => none
      | k :: r => if r.length < k.toNat then none else if May (r.take k.toNat, r.drop k.toNat) then some ((r.take k.toNat, r.drop k.toNat), number b + 8) else none)
theorem one_recd (e : Ent) (h : May e) (b : Byt) : one (recd e ++ b) = some (some (e, (recd e).length)) := by
  obtain ⟨h1, h2, h3⟩ := id h
  have hl := recd_len e
  have hbl := body_len e
  have hn : number (recd e ++ b) = 1 + e.1.length + e.2.length := by
    unfold recd body
    rw [List.append_assoc, List.append_assoc, number_four _ (by omega)]
  have ht : (recd e ++ b).take (1 + e.1.length + e.2.length + 4) = body e := by
    unfold recd
    rw [List.append_assoc, List.take_left' (by omega)]
  have hd : (recd e ++ b).drop (1 + e.1.length + e.2.length + 4) = four (csum (body e)) ++ b := by
    unfold recd
    rw [List.append_assoc, List.drop_left' (by omega)]
  unfold one
  rw [hn, if_neg (by rw [List.length_append, hl]; omega), ht, hd, if_neg (by rw [number_four _ (csum_lt _)]; simp)]
  have hb : (body e).drop 4 = UInt8.ofNat e.1.length :: (e.1 ++ e.2) := rfl
  rw [hb]
  have hk : (UInt8.ofNat e.1.length).toNat = e.1.length := by rw [UInt8.toNat_ofNat']; omega
  simp only [hk, List.take_left, List.drop_left, List.length_append]
  rw [if_neg (by omega), if_pos h, hl]
  exact congrArg (fun n => some (some (e, n))) (by omega)
theorem one_some {b : Byt} {e : Ent} {n : Nat} (h : one b = some (some (e, n))) : May e ∧ n = (recd e).length ∧ n ≤ b.length ∧ b.take n = recd e := by
  unfold one at h
  split at h
  · cases h
  · next hc =>
    rw [Option.some.injEq] at h
    split at h
    · cases h
    · next hs =>
      have hs : csum (b.take (number b + 4)) = number (b.drop (number b + 4)) := Classical.not_not.1 hs
      have hlen : (b.take (number b + 4)).length = number b + 4 := by rw [List.length_take]; omega
      split at h
      · cases h
      · next k r hp =>
        split at h
        · cases h
        · next hk =>
          split at h
          · next hm =>
            rw [Option.some.injEq, Prod.mk.injEq] at h
            obtain ⟨rfl, rfl⟩ := h
            have hr : r.length = number b - 1 ∧ 1 ≤ number b := by
              have := congrArg List.length hp
              rw [List.length_drop, hlen] at this
              simp at this
              omega
            have hkl : (r.take k.toNat).length = k.toNat := by rw [List.length_take]; omega
            have hkd : (r.drop k.toNat).length = r.length - k.toNat := List.length_drop
            have hb : body (r.take k.toNat, r.drop k.toNat) = b.take (number b + 4) := by
              unfold body
              simp only [List.take_append_drop, hkl, hkd]
              rw [show 1 + k.toNat + (r.length - k.toNat) = number b by omega, show UInt8.ofNat k.toNat = k from UInt8.ofNat_toNat, ← hp]
              have h4 : four (number b) = (b.take (number b + 4)).take 4 := by
                rw [List.take_take, Nat.min_eq_left (by omega), ← number_take b 4 (by omega)]
                exact four_number _ (by rw [List.length_take]; omega)
              rw [h4, List.take_append_drop]
            have hrl : (recd (r.take k.toNat, r.drop k.toNat)).length = number b + 8 := by
              rw [recd_len]
              simp only [hkl, hkd]
              omega
            refine ⟨hm, hrl.symm, by omega, ?_⟩
            unfold recd
            rw [hb, hs]
            have h4 : four (number (b.drop (number b + 4))) = (b.drop (number b + 4)).take 4 := by
              rw [← number_take _ 4 (by omega)]
              exact four_number _ (by rw [List.length_take, List.length_drop]; omega)
            rw [h4, show number b + 8 = (number b + 4) + 4 by omega, List.take_add]
          · cases h
/-- A record that is cut. -/
theorem one_cut (e : Ent) (he : May e) (k : Nat) (h : k < (recd e).length) : one ((recd e).take k) = none := by
  have hl := recd_len e
  obtain ⟨h1, h2, h3⟩ := id he
  unfold one
  rw [if_pos]
  rw [List.length_take, Nat.min_eq_left (by omega)]
  by_cases hk : k < 8
  · exact .inl hk
  · refine .inr ?_
    have hn : number ((recd e).take k) = 1 + e.1.length + e.2.length := by
      rw [number_take _ _ (by omega)]
      unfold recd body
      rw [List.append_assoc, number_four _ (by omega)]
    rw [hn]
    omega
/-- All that a log tells: entries, bytes, and what is wrong. -/
def rdF : Nat → Byt → List Ent × Nat × Nat
  | 0, _ => ([], 0, 0)
  | k + 1, b => if b.length = 0 then ([], 0, 0) else match one b with
    | none => ([], 0, 301)
    | some none => ([], 0, 300)
    | some (some (e, n)) => (e :: (rdF k (b.drop n)).1, n + (rdF k (b.drop n)).2.1, (rdF k (b.drop n)).2.2)
theorem rdF_more : ∀ (k j : Nat) (b : Byt), b.length ≤ k → b.length ≤ j → rdF k b = rdF j b
  | 0, 0, b, _, _ => rfl
  | 0, j + 1, b, h, _ => by rw [rdF, rdF, if_pos (by omega)]
  | k + 1, 0, b, _, h => by rw [rdF, rdF, if_pos (by omega)]
  | k + 1, j + 1, b, h1, h2 => by
    rw [rdF, rdF]
    by_cases h0 : b.length = 0
    · rw [if_pos h0, if_pos h0]
    · rw [if_neg h0, if_neg h0]
      cases ho : one b with
      | none => rfl
      | some x =>
        cases x with
        | none => rfl
        | some p =>
          obtain ⟨e, n⟩ := p
          have := one_some ho
          have := recd_len e
          have hd : (b.drop n).length = b.length - n := List.length_drop
          simp only
          rw [rdF_more k j (b.drop n) (by omega) (by omega)]
def rd (b : Byt) : List Ent × Nat × Nat := rdF b.length b
theorem rd_nil : rd [] = ([], 0, 0) := rfl
theorem rd_cut {b : Byt} (h0 : b.length ≠ 0) (h : one b = none) : rd b = ([], 0, 301) := by
  unfold rd
  obtain ⟨k, hk⟩ := Nat.exists_eq_succ_of_ne_zero h0
  rw [hk, rdF, if_neg h0, h]
theorem rd_sum {b : Byt} (h : one b = some none) : rd b = ([], 0, 300) := by
  have h0 : b.length ≠ 0 := fun h0 => by rw [List.eq_nil_of_length_eq_zero h0] at h; simp [one] at h
  unfold rd
  obtain ⟨k, hk⟩ := Nat.exists_eq_succ_of_ne_zero h0
  rw [hk, rdF, if_neg h0, h]
theorem rd_ok {b : Byt} {e : Ent} {n : Nat} (h : one b = some (some (e, n))) : rd b = (e :: (rd (b.drop n)).1, n + (rd (b.drop n)).2.1, (rd (b.drop n)).2.2) := by
  have h1 := one_some h
  have h2 := recd_len e
  have h0 : b.length ≠ 0 := by omega
  have hd : (b.drop n).length = b.length - n := List.length_drop
  unfold rd
  obtain ⟨k, hk⟩ := Nat.exists_eq_succ_of_ne_zero h0
  rw [hk, rdF, if_neg h0, h]
  simp only
  rw [rdF_more k (b.drop n).length (b.drop n) (by omega) (Nat.le_refl _)]
def recs : List Ent → Byt
  | [] => []
  | e :: l => recd e ++ recs l
theorem recs_append (a b : List Ent) : recs (a ++ b) = recs a ++ recs b := by
  induction a with
  | nil => rfl
  | cons e a ih => simp [recs, ih]
theorem recs_one (e : Ent) : recs [e] = recd e := by simp [recs]
/-- Records ahead are told first. -/
theorem rd_recs : ∀ (l : List Ent) (b : Byt), (∀ e ∈ l, May e) → rd (recs l ++ b) = (l ++ (rd b).1, (recs l).length + (rd b).2.1, (rd b).2.2)
  | [], b, _ => by simp [recs]
  | e :: l, b, h => by
    show rd ((recd e ++ recs l) ++ b) = _
    rw [List.append_assoc, rd_ok (one_recd e (h e (by simp)) _), List.drop_left, rd_recs l b fun x hx => h x (by simp [hx])]
    simp only [recs, List.length_append, List.cons_append, Nat.add_assoc]
theorem rd_all (l : List Ent) (h : ∀ e ∈ l, May e) : rd (recs l) = (l, (recs l).length, 0) := by
  have := rd_recs l [] h
  rw [List.append_nil, rd_nil] at this
  simpa using this
/-- What is told, written again, are the bytes that were read. -/
theorem rd_spec (b : Byt) : (∀ e ∈ (rd b).1, May e) ∧ (rd b).2.1 ≤ b.length ∧ b.take (rd b).2.1 = recs (rd b).1 ∧ ((rd b).2.2 = 0 ↔ (rd b).2.1 = b.length) ∧ ((rd b).2.2 = 0 ∨ (rd b).2.2 = 300 ∨ (rd b).2.2 = 301) := by
  by_cases h0 : b.length = 0
  · rw [List.eq_nil_of_length_eq_zero h0, rd_nil]; simp [recs]
  · cases ho : one b with
    | none => rw [rd_cut h0 ho]; simp [recs]; omega
    | some x =>
      cases x with
      | none => rw [rd_sum ho]; simp [recs]; omega
      | some p =>
        obtain ⟨e, n⟩ := p
        obtain ⟨h1, h2, h3, h4⟩ := one_some ho
        have hl := recd_len e
        have hd : (b.drop n).length = b.length - n := List.length_drop
        obtain ⟨i1, i2, i3, i4, i5⟩ := rd_spec (b.drop n)
        rw [rd_ok ho]
        simp only
        refine ⟨fun x hx => ?_, by omega, ?_, by rw [i4]; omega, i5⟩
        · rcases List.mem_cons.1 hx with rfl | hx
          · exact h1
          · exact i1 x hx
        · rw [List.take_add, h4, i3]; rfl
termination_by b.length
decreasing_by omega
/-- A log of records that is cut somewhere. -/
theorem rd_take : ∀ (l : List Ent) (k : Nat), (∀ e ∈ l, May e) → k ≤ (recs l).length → ∃ m, m ≤ l.length ∧ (recs (l.take m)).length ≤ k ∧ (m < l.length → k < (recs (l.take (m + 1))).length) ∧
    rd ((recs l).take k) = (l.take m, (recs (l.take m)).length, if k = (recs (l.take m)).length then 0 else 301)
  | [], k, _, hk => ⟨0, by simp, by simp [recs], by simp, by
      have : k = 0 := by simpa [recs] using hk
      subst this
      simp [recs, rd_nil]⟩
  | e :: l, k, h, hk => by
    by_cases hc : k < (recd e).length
    · refine ⟨0, by simp, by simp [recs], fun _ => by simpa [recs] using hc, ?_⟩
      have ht : (recs (e :: l)).take k = (recd e).take k := by
        show (recd e ++ recs l).take k = _
        rw [List.take_append_of_le_length (by omega)]
      rw [ht]
      by_cases h0 : k = 0
      · subst h0; simp [recs, rd_nil]
      · rw [rd_cut (by rw [List.length_take]; omega) (one_cut e (h e (by simp)) k hc)]
        simp [recs, h0]
    · obtain ⟨m, h1, h2, h3, h4⟩ := rd_take l (k - (recd e).length) (fun x hx => h x (by simp [hx])) (by
        have : (recs (e :: l)).length = (recd e).length + (recs l).length := List.length_append
        omega)
      have hcons : ∀ j, recs ((e :: l).take (j + 1)) = recd e ++ recs (l.take j) := fun j => rfl
      refine ⟨m + 1, by simp; omega, by rw [hcons, List.length_append]; omega, fun hm => by
        have := h3 (by simpa using hm)
        rw [hcons, List.length_append]; omega, ?_⟩
      have ht : (recs (e :: l)).take k = recd e ++ (recs l).take (k - (recd e).length) := by
        show (recd e ++ recs l).take k = _
        rw [List.take_append, List.take_of_length_le (by omega)]
      have := rd_recs [e] ((recs l).take (k - (recd e).length)) (fun x hx => by rw [List.mem_singleton] at hx; subst hx; exact h _ (by simp))
      rw [recs_one] at this
      rw [ht, this, h4, hcons]
      simp only [List.length_append, List.singleton_append, List.take_succ_cons]
      congr 2
      by_cases hq : k = (recd e).length + (recs (l.take m)).length
      · rw [if_pos hq, if_pos (by omega)]
      · rw [if_neg hq, if_neg (by omega)]
end Go.Proofs.YtmioaeaobefphaaDoor.T
namespace Go.Proofs.YtmioaeaobefphaaDoor.T
set_option linter.unusedVariables false
theorem set_split {α} (l : List α) (p : Nat) (h : p < l.length) (x : α) : l.set p x = l.take p ++ x :: l.drop (p + 1) := List.set_eq_take_append_cons_drop.trans (if_pos h)
theorem split_at {α} (l : List α) (p : Nat) (h : p < l.length) : l = l.take p ++ l[p] :: l.drop (p + 1) := by
  rw [← List.drop_eq_getElem_cons h, List.take_append_drop]
theorem csum_other (l : Byt) (p : Nat) (h : p < l.length) (x : UInt8) (hx : x ≠ l[p]) : csum (l.set p x) ≠ csum l := by
  intro e
  unfold csum at e
  have e2 := congrArg (· ^^^ 4294967295) e
  simp only [Nat.xor_assoc, Nat.xor_self, Nat.xor_zero] at e2
  rw [set_split l p h] at e2
  conv at e2 => rhs; rw [split_at l p h]
  rw [nb_append, nb_append] at e2
  refine crc_other (nb (l.take p)) (nb (l.drop (p + 1))) x.toNat (l[p]).toNat 4294967295 (by omega) (nb_lt _) (nb_lt _) x.toNat_lt (UInt8.toNat_lt _) (fun e => hx (UInt8.toNat_inj.1 e)) e2
theorem number_other (l : Byt) (p : Nat) (h : p < l.length) (h4 : p < 4) (x : UInt8) (hx : x ≠ l[p]) : number (l.set p x) ≠ number l := by
  intro e
  have hb : ∀ i, i ≠ p → bt (l.set p x) i = bt l i := fun i hi => by unfold bt; rw [List.getElem?_set_ne (fun e => hi e.symm)]
  have hp : bt (l.set p x) p = x.toNat := by unfold bt; rw [List.getElem?_set_self h]; rfl
  have hq : bt l p = (l[p]).toNat := by unfold bt; rw [List.getElem?_eq_getElem h]; rfl
  have h1 := fun i => bt_lt l i
  have h2 := fun i => bt_lt (l.set p x) i
  have hne : x.toNat ≠ (l[p]).toNat := fun e => hx (UInt8.toNat_inj.1 e)
  unfold number at e
  rcases p with _ | _ | _ | _ | p
  · rw [hp, hb 1 (by omega), hb 2 (by omega), hb 3 (by omega), hq] at e; omega
  · have := h1 0; have := h1 1; rw [hp, hb 0 (by omega), hb 2 (by omega), hb 3 (by omega), hq] at e; omega
  · rw [hp, hb 0 (by omega), hb 1 (by omega), hb 3 (by omega), hq] at e; omega
  · rw [hp, hb 0 (by omega), hb 1 (by omega), hb 2 (by omega), hq] at e; omega
  · omega
/-- One byte behind a record's length is another one. -/
theorem one_flip (e : Ent) (he : May e) (b : Byt) (p : Nat) (h4 : 4 ≤ p) (hp : p < (recd e).length) (x : UInt8) (hpl : p < (recd e ++ b).length) (hx : x ≠ (recd e ++ b)[p]) : one ((recd e ++ b).set p x) = some none := by
  have hl := recd_len e
  have hbl := body_len e
  obtain ⟨h1, h2, h3⟩ := id he
  have hn : number ((recd e ++ b).set p x) = 1 + e.1.length + e.2.length := by
    rw [← number_take _ 4 (by omega), List.take_set_of_le (by omega), number_take _ 4 (by omega)]
    unfold recd body
    rw [List.append_assoc, List.append_assoc, number_four _ (by omega)]
  have hset : (recd e ++ b).set p x = (recd e).set p x ++ b := List.set_append_left _ _ hp
  have hx' : x ≠ (recd e)[p] := by rwa [List.getElem_append_left hp] at hx
  unfold one
  rw [hn, if_neg (by rw [List.length_set, List.length_append, hl]; omega), if_pos]
  rw [hset]
  by_cases hpb : p < (body e).length
  · have hs2 : (recd e).set p x = (body e).set p x ++ four (csum (body e)) := List.set_append_left _ _ hpb
    have hbs : ((body e).set p x).length = 1 + e.1.length + e.2.length + 4 := by rw [List.length_set]; omega
    rw [hs2, List.append_assoc, List.take_left' hbs, List.drop_left' hbs, number_four _ (csum_lt _)]
    refine csum_other _ _ hpb _ ?_
    have e0 : (recd e)[p] = (body e)[p] := List.getElem_append_left hpb
    rwa [e0] at hx'
  · have hs2 : (recd e).set p x = body e ++ (four (csum (body e))).set (p - (body e).length) x := List.set_append_right _ _ (by omega)
    have hbs : (body e).length = 1 + e.1.length + e.2.length + 4 := by omega
    have hq : p - (body e).length < (four (csum (body e))).length := by rw [four_len]; omega
    rw [hs2, List.append_assoc, List.take_left' hbs, List.drop_left' hbs, number_append _ _ (by rw [List.length_set]; exact Nat.le_refl 4)]
    intro e1
    refine number_other (four (csum (body e))) _ hq hq x ?_ (e1.symm.trans ?_)
    · have e0 : (recd e)[p] = (four (csum (body e)))[p - (body e).length] := List.getElem_append_right (by omega)
      rwa [e0] at hx'
    · have := number_four (csum (body e)) (csum_lt _) []
      rw [List.append_nil] at this
      exact this.symm
end Go.Proofs.YtmioaeaobefphaaDoor.T
