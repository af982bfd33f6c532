/- Residues modulo the generator: words of 16 bits; tx is the product with x, mul the product. -/
import Derived.KernelRfl
namespace Go.Proofs.Ytelpdihaonoedaa

abbrev Wd := BitVec 16
def tx (a : Wd) : Wd := (a <<< 1) ^^^ (if a.msb then 0x1021#16 else 0#16)
def txn : Nat → Wd → Wd
  | 0, a => a
  | n + 1, a => tx (txn n a)
def msum (a b : Wd) : Nat → Wd
  | 0 => 0#16
  | n + 1 => msum a b n ^^^ (if b.getLsbD n then txn n a else 0#16)
def mul (a b : Wd) : Wd := msum a b 16
def pw (n : Nat) : Wd := txn n 1#16

theorem xor4 (a b c d : Wd) : (a ^^^ b) ^^^ (c ^^^ d) = (a ^^^ c) ^^^ (b ^^^ d) := by ac_rfl
theorem tx_xor (a b : Wd) : tx (a ^^^ b) = tx a ^^^ tx b := by
  unfold tx
  rw [BitVec.shiftLeft_xor_distrib, BitVec.msb_xor, xor4]
  cases a.msb <;> cases b.msb <;> simp
theorem txn_xor (n : Nat) (a b : Wd) : txn n (a ^^^ b) = txn n a ^^^ txn n b := by
  induction n with
  | zero => rfl
  | succ n ih => rw [txn, ih, tx_xor, txn, txn]
theorem tx_zero : tx 0#16 = 0#16 := by decide
theorem txn_zero (n : Nat) : txn n 0#16 = 0#16 := by
  induction n with
  | zero => rfl
  | succ n ih => rw [txn, ih, tx_zero]
theorem txn_add (m n : Nat) (a : Wd) : txn (m + n) a = txn m (txn n a) := by
  induction m with
  | zero => rw [Nat.zero_add, txn]
  | succ m ih => rw [show m + 1 + n = m + n + 1 by omega, txn, ih, txn]
theorem txn_succ' (n : Nat) (a : Wd) : txn (n + 1) a = txn n (tx a) := by rw [txn_add n 1]; rfl
theorem tx_inj {a b : Wd} (h : tx a = tx b) : a = b := by
  have h0 : ∀ c : Wd, tx c = 0#16 → c = 0#16 := by
    intro c hc
    unfold tx at hc
    cases hm : c.msb
    · rw [hm] at hc
      simp only [Bool.false_eq_true, if_false, BitVec.xor_zero] at hc
      rw [BitVec.msb_eq_false_iff_two_mul_lt] at hm
      have := congrArg BitVec.toNat hc
      rw [BitVec.toNat_shiftLeft, Nat.shiftLeft_eq] at this
      apply BitVec.eq_of_toNat_eq
      simp at this ⊢
      omega
    · rw [hm] at hc
      have := congrArg (fun v : Wd => v.getLsbD 0) hc
      simp at this
  have e : tx (a ^^^ b) = 0#16 := by rw [tx_xor, h, BitVec.xor_self]
  have := congrArg (· ^^^ b) (h0 _ e)
  simpa [BitVec.xor_assoc] using this
theorem txn_inj {n : Nat} {a b : Wd} (h : txn n a = txn n b) : a = b := by
  induction n with
  | zero => exact h
  | succ n ih => exact ih (tx_inj h)

theorem msum_xor_left (a b c : Wd) (n : Nat) : msum (a ^^^ b) c n = msum a c n ^^^ msum b c n := by
  induction n with
  | zero => simp [msum]
  | succ n ih =>
    simp only [msum, ih]
    cases c.getLsbD n
    · simp
    · simp only [if_true, txn_xor]; rw [xor4]
theorem msum_xor_right (a b c : Wd) (n : Nat) : msum a (b ^^^ c) n = msum a b n ^^^ msum a c n := by
  induction n with
  | zero => simp [msum]
  | succ n ih =>
    simp only [msum, ih, BitVec.getLsbD_xor]
    rw [xor4]
    cases b.getLsbD n <;> cases c.getLsbD n <;> simp
theorem mul_xor_left (a b c : Wd) : mul (a ^^^ b) c = mul a c ^^^ mul b c := msum_xor_left a b c 16
theorem mul_xor_right (a b c : Wd) : mul a (b ^^^ c) = mul a b ^^^ mul a c := msum_xor_right a b c 16
theorem tx_msum (a b : Wd) (n : Nat) : tx (msum a b n) = msum (tx a) b n := by
  induction n with
  | zero => exact tx_zero
  | succ n ih =>
    simp only [msum, tx_xor, ih]
    cases b.getLsbD n
    · simp [tx_zero]
    · simp only [if_true]; rw [← txn_succ', txn]
theorem mul_tx (a b : Wd) : mul (tx a) b = tx (mul a b) := (tx_msum a b 16).symm
theorem pw_small : ∀ i : Fin 16, pw i.val = BitVec.twoPow 16 i.val := by decide
theorem msum_one (a : Wd) (n : Nat) (hn : n ≤ 16) (k : Nat) : (msum 1#16 a n).getLsbD k = (decide (k < n) && a.getLsbD k) := by
  induction n with
  | zero => simp [msum]
  | succ n ih =>
    have hp : txn n 1#16 = BitVec.twoPow 16 n := pw_small ⟨n, by omega⟩
    rw [msum, BitVec.getLsbD_xor, ih (by omega), hp]
    by_cases h1 : k < n
    · have h2 : ¬ n = k := by omega
      cases ha : a.getLsbD n <;> simp [BitVec.getLsbD_twoPow, h1, h2, show k < n + 1 by omega]
    · by_cases h2 : k = n
      · subst h2
        cases ha : a.getLsbD k <;> simp [show k < 16 by omega]
      · have h3 : ¬ n = k := by omega
        cases ha : a.getLsbD n <;> simp [BitVec.getLsbD_twoPow, h1, h3, show ¬ k < n + 1 by omega]
theorem one_mul (a : Wd) : mul 1#16 a = a := by
  apply BitVec.eq_of_getLsbD_eq
  intro i hi
  rw [mul, msum_one a 16 (Nat.le_refl _), decide_eq_true hi, Bool.true_and]

/-- Two additive functions that are equal at the powers of x are equal. -/
theorem add_ext {f g : Wd → Wd} (hf : ∀ a b, f (a ^^^ b) = f a ^^^ f b) (hg : ∀ a b, g (a ^^^ b) = g a ^^^ g b) (h : ∀ i, i < 16 → f (pw i) = g (pw i)) (a : Wd) : f a = g a := by
  have z : ∀ (f : Wd → Wd), (∀ a b, f (a ^^^ b) = f a ^^^ f b) → f 0#16 = 0#16 := by
    intro f hf
    have := hf 0#16 0#16
    rw [BitVec.xor_self, BitVec.xor_self] at this
    exact this
  have k : ∀ n, n ≤ 16 → f (msum 1#16 a n) = g (msum 1#16 a n) := by
    intro n
    induction n with
    | zero => intro _; rw [msum, z f hf, z g hg]
    | succ n ih =>
      intro hn
      rw [msum, hf, hg, ih (by omega)]
      cases a.getLsbD n
      · simp [z f hf, z g hg]
      · rw [if_pos rfl]; exact congrArg _ (h n (by omega))
  have := k 16 (Nat.le_refl _)
  rwa [show msum 1#16 a 16 = a from one_mul a] at this
theorem mul_table : ((List.range 16).all fun i => (List.range 16).all fun j => mul (pw i) (pw j) == pw (i + j)) = true := by kernel_rfl
theorem mul_small {i j : Nat} (hi : i < 16) (hj : j < 16) : mul (pw i) (pw j) = pw (i + j) := by
  have := mul_table
  rw [List.all_eq_true] at this
  have := this i (List.mem_range.2 hi)
  rw [List.all_eq_true] at this
  exact eq_of_beq (this j (List.mem_range.2 hj))
theorem mul_comm (a b : Wd) : mul a b = mul b a := by
  refine add_ext (f := fun a => mul a b) (g := fun a => mul b a) (fun _ _ => mul_xor_left _ _ _) (fun _ _ => mul_xor_right _ _ _) (fun i hi => ?_) a
  refine add_ext (f := fun b => mul (pw i) b) (g := fun b => mul b (pw i)) (fun _ _ => mul_xor_right _ _ _) (fun _ _ => mul_xor_left _ _ _) (fun j hj => ?_) b
  show mul (pw i) (pw j) = mul (pw j) (pw i)
  rw [mul_small hi hj, mul_small hj hi, Nat.add_comm]
theorem mul_txn (n : Nat) (a b : Wd) : mul (txn n a) b = txn n (mul a b) := by
  induction n with
  | zero => rfl
  | succ n ih => rw [txn, mul_tx, ih, txn]
theorem mul_one (a : Wd) : mul a 1#16 = a := by rw [mul_comm, one_mul]
theorem mul_pw (n : Nat) (a : Wd) : mul a (pw n) = txn n a := by rw [mul_comm, pw, mul_txn, one_mul]
theorem mul_pw_pw (m n : Nat) : mul (pw m) (pw n) = pw (m + n) := by rw [mul_pw, pw, pw, Nat.add_comm, txn_add]
theorem mul_assoc (a b c : Wd) : mul (mul a b) c = mul a (mul b c) := by
  refine add_ext (f := fun c => mul (mul a b) c) (g := fun c => mul a (mul b c)) (fun _ _ => mul_xor_right _ _ _) (fun x y => by show mul a (mul b (x ^^^ y)) = _; rw [mul_xor_right, mul_xor_right]) (fun i hi => ?_) c
  show mul (mul a b) (pw i) = mul a (mul b (pw i))
  rw [mul_pw, mul_pw, mul_comm a (txn i b), mul_txn, mul_comm b a]
/-- Horner's way. -/
theorem horner (a b : Wd) (i : Nat) (h : Wd) (hi : mul a b = msum a b (i + 1) ^^^ txn (i + 1) h) : mul a b = msum a b i ^^^ txn i (tx h ^^^ (if b.getLsbD i then a else 0#16)) := by
  rw [hi, msum, txn_succ', txn_xor, BitVec.xor_assoc, BitVec.xor_comm (txn i (tx h))]
  cases b.getLsbD i <;> simp [txn_zero]

theorem sq (m n : Nat) (v : Wd) (hv : pw m = v) (k : n = m + m) : pw n = mul v v := by rw [k, ← mul_pw_pw, hv]
theorem pw_32768 : pw 32768 = 2#16 := by
  have h8 : pw 8 = 256#16 := by decide
  have h16 : pw 16 = 4129#16 := (sq 8 16 256#16 h8 rfl).trans (by kernel_rfl)
  have h32 : pw 32 = 14128#16 := (sq 16 32 4129#16 h16 rfl).trans (by kernel_rfl)
  have h64 : pw 64 = 47201#16 := (sq 32 64 14128#16 h32 rfl).trans (by kernel_rfl)
  have h128 : pw 128 = 44796#16 := (sq 64 128 47201#16 h64 rfl).trans (by kernel_rfl)
  have h256 : pw 256 = 36393#16 := (sq 128 256 44796#16 h128 rfl).trans (by kernel_rfl)
  have h512 : pw 512 = 5116#16 := (sq 256 512 36393#16 h256 rfl).trans (by kernel_rfl)
  have h1024 : pw 1024 = 14020#16 := (sq 512 1024 5116#16 h512 rfl).trans (by kernel_rfl)
  have h2048 : pw 2048 = 64848#16 := (sq 1024 2048 14020#16 h1024 rfl).trans (by kernel_rfl)
  have h4096 : pw 4096 = 43678#16 := (sq 2048 4096 64848#16 h2048 rfl).trans (by kernel_rfl)
  have h8192 : pw 8192 = 34844#16 := (sq 4096 8192 43678#16 h4096 rfl).trans (by kernel_rfl)
  have h16384 : pw 16384 = 17496#16 := (sq 8192 16384 34844#16 h8192 rfl).trans (by kernel_rfl)
  have h32768 : pw 32768 = 2#16 := (sq 16384 32768 17496#16 h16384 rfl).trans (by kernel_rfl)
  exact h32768
theorem pw_period : pw 32767 = 1#16 := tx_inj (a := pw 32767) (b := pw 0) pw_32768
theorem pw_217 : pw 217 ≠ 1#16 := by
  have a1 : pw 1 = 2#16 := by decide
  have a2 : pw 2 = 4#16 := (sq 1 2 2#16 a1 rfl).trans (by kernel_rfl)
  have a3 : pw 3 = 8#16 := (congrArg tx a2).trans (by kernel_rfl)
  have a6 : pw 6 = 64#16 := (sq 3 6 8#16 a3 rfl).trans (by kernel_rfl)
  have a12 : pw 12 = 4096#16 := (sq 6 12 64#16 a6 rfl).trans (by kernel_rfl)
  have a13 : pw 13 = 8192#16 := (congrArg tx a12).trans (by kernel_rfl)
  have a26 : pw 26 = 52420#16 := (sq 13 26 8192#16 a13 rfl).trans (by kernel_rfl)
  have a27 : pw 27 = 35241#16 := (congrArg tx a26).trans (by kernel_rfl)
  have a54 : pw 54 = 4456#16 := (sq 27 54 35241#16 a27 rfl).trans (by kernel_rfl)
  have a108 : pw 108 = 14160#16 := (sq 54 108 4456#16 a54 rfl).trans (by kernel_rfl)
  have a216 : pw 216 = 44129#16 := (sq 108 216 14160#16 a108 rfl).trans (by kernel_rfl)
  have a217 : pw 217 = 18659#16 := (congrArg tx a216).trans (by kernel_rfl)
  rw [a217]; decide
theorem pw_1057 : pw 1057 ≠ 1#16 := by
  have a1 : pw 1 = 2#16 := by decide
  have a2 : pw 2 = 4#16 := (sq 1 2 2#16 a1 rfl).trans (by kernel_rfl)
  have a4 : pw 4 = 16#16 := (sq 2 4 4#16 a2 rfl).trans (by kernel_rfl)
  have a8 : pw 8 = 256#16 := (sq 4 8 16#16 a4 rfl).trans (by kernel_rfl)
  have a16 : pw 16 = 4129#16 := (sq 8 16 256#16 a8 rfl).trans (by kernel_rfl)
  have a32 : pw 32 = 14128#16 := (sq 16 32 4129#16 a16 rfl).trans (by kernel_rfl)
  have a33 : pw 33 = 28256#16 := (congrArg tx a32).trans (by kernel_rfl)
  have a66 : pw 66 = 49606#16 := (sq 33 66 28256#16 a33 rfl).trans (by kernel_rfl)
  have a132 : pw 132 = 20106#16 := (sq 66 132 49606#16 a66 rfl).trans (by kernel_rfl)
  have a264 : pw 264 = 22854#16 := (sq 132 264 20106#16 a132 rfl).trans (by kernel_rfl)
  have a528 : pw 528 = 30899#16 := (sq 264 528 22854#16 a264 rfl).trans (by kernel_rfl)
  have a1056 : pw 1056 = 61767#16 := (sq 528 1056 30899#16 a528 rfl).trans (by kernel_rfl)
  have a1057 : pw 1057 = 62127#16 := (congrArg tx a1056).trans (by kernel_rfl)
  rw [a1057]; decide
theorem pw_4681 : pw 4681 ≠ 1#16 := by
  have a1 : pw 1 = 2#16 := by decide
  have a2 : pw 2 = 4#16 := (sq 1 2 2#16 a1 rfl).trans (by kernel_rfl)
  have a4 : pw 4 = 16#16 := (sq 2 4 4#16 a2 rfl).trans (by kernel_rfl)
  have a8 : pw 8 = 256#16 := (sq 4 8 16#16 a4 rfl).trans (by kernel_rfl)
  have a9 : pw 9 = 512#16 := (congrArg tx a8).trans (by kernel_rfl)
  have a18 : pw 18 = 16516#16 := (sq 9 18 512#16 a9 rfl).trans (by kernel_rfl)
  have a36 : pw 36 = 17251#16 := (sq 18 36 16516#16 a18 rfl).trans (by kernel_rfl)
  have a72 : pw 72 = 18387#16 := (sq 36 72 17251#16 a36 rfl).trans (by kernel_rfl)
  have a73 : pw 73 = 36774#16 := (congrArg tx a72).trans (by kernel_rfl)
  have a146 : pw 146 = 17288#16 := (sq 73 146 36774#16 a73 rfl).trans (by kernel_rfl)
  have a292 : pw 292 = 5014#16 := (sq 146 292 17288#16 a146 rfl).trans (by kernel_rfl)
  have a584 : pw 584 = 8832#16 := (sq 292 584 5014#16 a292 rfl).trans (by kernel_rfl)
  have a585 : pw 585 = 17664#16 := (congrArg tx a584).trans (by kernel_rfl)
  have a1170 : pw 1170 = 355#16 := (sq 585 1170 17664#16 a585 rfl).trans (by kernel_rfl)
  have a2340 : pw 2340 = 1060#16 := (sq 1170 2340 355#16 a1170 rfl).trans (by kernel_rfl)
  have a4680 : pw 4680 = 5665#16 := (sq 2340 4680 1060#16 a2340 rfl).trans (by kernel_rfl)
  have a4681 : pw 4681 = 11330#16 := (congrArg tx a4680).trans (by kernel_rfl)
  rw [a4681]; decide

theorem pw_add_one {m : Nat} (h : pw m = 1#16) (n : Nat) : pw (n + m) = pw n := by rw [pw, txn_add]; show txn n (pw m) = pw n; rw [h, pw]
theorem pw_mul_one {m : Nat} (h : pw m = 1#16) (k n : Nat) : pw (n + m * k) = pw n := by
  induction k with
  | zero => rfl
  | succ k ih => rw [Nat.mul_succ, ← Nat.add_assoc, pw_add_one h, ih]
theorem pw_mod_one {m : Nat} (h : pw m = 1#16) (n : Nat) : pw (n % m) = pw n := by
  have := pw_mul_one h (n / m) (n % m)
  rw [Nat.mod_add_div] at this; exact this.symm
theorem pw_gcd {m : Nat} : ∀ n, pw m = 1#16 → pw n = 1#16 → pw (Nat.gcd m n) = 1#16 := by
  induction m using Nat.strongRecOn with
  | ind m ih =>
    intro n hm hn
    by_cases h0 : m = 0
    · subst h0; rwa [Nat.gcd_zero_left]
    · rw [Nat.gcd_rec]
      exact ih (n % m) (Nat.mod_lt _ (Nat.pos_of_ne_zero h0)) m (by rw [pw_mod_one hm]; exact hn) hm
theorem divisors : ((List.range 182).all fun k => k == 0 || 32767 % k != 0 || k == 1 || k % 7 == 0 || k % 31 == 0 || k % 151 == 0) = true := by kernel_rfl
theorem small_divisors : ((List.range 182).all fun k => k == 0 || 32767 % k != 0 || k == 1 || k == 7 || k == 31 || k == 151) = true := by kernel_rfl
theorem pw_ne_one {d : Nat} (h0 : 0 < d) (h1 : d < 32767) : pw d ≠ 1#16 := by
  intro hd
  have hg := pw_gcd 32767 hd pw_period
  have hdv := Nat.gcd_dvd_right d 32767
  have hle := Nat.le_of_dvd h0 (Nat.gcd_dvd_left d 32767)
  have hpos := Nat.gcd_pos_of_pos_left 32767 h0
  generalize Nat.gcd d 32767 = g at *
  obtain ⟨k, hk⟩ := hdv
  have not7 : ∀ q, g * q ≠ 4681 := fun q e => pw_4681 (by have := pw_mul_one hg q 0; rw [Nat.zero_add, e] at this; exact this)
  have not31 : ∀ q, g * q ≠ 1057 := fun q e => pw_1057 (by have := pw_mul_one hg q 0; rw [Nat.zero_add, e] at this; exact this)
  have not151 : ∀ q, g * q ≠ 217 := fun q e => pw_217 (by have := pw_mul_one hg q 0; rw [Nat.zero_add, e] at this; exact this)
  by_cases hs : g < 182
  · have := small_divisors
    rw [List.all_eq_true] at this
    have := this g (List.mem_range.2 hs)
    have hm : 32767 % g = 0 := by rw [hk]; exact Nat.mul_mod_right g k
    have hne : g ≠ 0 := by omega
    simp [hm, hne] at this
    rcases this with ((h | h) | h) | h
    · exact not151 217 (by rw [h])
    · exact not151 31 (by rw [h])
    · exact not151 7 (by rw [h])
    · exact not31 7 (by rw [h])
  · have hk182 : k < 182 := by
      apply Nat.lt_of_not_le
      intro hc
      have : 182 * 182 ≤ g * k := Nat.mul_le_mul (by omega) hc
      omega
    have := divisors
    rw [List.all_eq_true] at this
    have := this k (List.mem_range.2 hk182)
    have hm : 32767 % k = 0 := by rw [hk]; exact Nat.mul_mod_left g k
    have hne : k ≠ 0 := by rintro rfl; omega
    have hne1 : k ≠ 1 := by rintro rfl; omega
    simp [hm, hne, hne1] at this
    rcases this with (h | h) | h
    · refine not7 (k / 7) (Nat.eq_of_mul_eq_mul_right (show 0 < 7 by decide) ?_)
      rw [Nat.mul_assoc, Nat.div_mul_cancel (Nat.dvd_of_mod_eq_zero h), ← hk]
    · refine not31 (k / 31) (Nat.eq_of_mul_eq_mul_right (show 0 < 31 by decide) ?_)
      rw [Nat.mul_assoc, Nat.div_mul_cancel (Nat.dvd_of_mod_eq_zero h), ← hk]
    · refine not151 (k / 151) (Nat.eq_of_mul_eq_mul_right (show 0 < 151 by decide) ?_)
      rw [Nat.mul_assoc, Nat.div_mul_cancel (Nat.dvd_of_mod_eq_zero h), ← hk]
theorem pw_inj {i j : Nat} (hi : i < 32767) (hj : j < 32767) (h : pw i = pw j) : i = j := by
  have key : ∀ a b, a ≤ b → b < 32767 → pw a = pw b → a = b := by
    intro a b hab hb e
    rcases Nat.eq_or_lt_of_le hab with h | h
    · exact h
    · exfalso
      refine pw_ne_one (d := b - a) (by omega) (by omega) ?_
      have : txn a 1#16 = txn a (pw (b - a)) := by
        rw [pw, ← txn_add, show a + (b - a) = b by omega]; exact e
      exact (txn_inj this).symm
  rcases Nat.le_total i j with hij | hij
  · exact key i j hij hj h
  · exact (key j i hij hi h.symm).symm
theorem pw_mod (n : Nat) : pw (n % 32767) = pw n := pw_mod_one pw_period n
/-- The parity of a word's bits, as a word. -/
def fold (a : Wd) (k : Nat) : Wd := a ^^^ (a >>> k)
def par (a : Wd) : Wd := fold (fold (fold (fold a 8) 4) 2) 1 &&& 1#16
theorem fold_xor (a b : Wd) (k : Nat) : fold (a ^^^ b) k = fold a k ^^^ fold b k := by unfold fold; rw [BitVec.ushiftRight_xor_distrib, xor4]
theorem par_xor (a b : Wd) : par (a ^^^ b) = par a ^^^ par b := by
  unfold par
  rw [fold_xor, fold_xor, fold_xor, fold_xor]
  apply BitVec.eq_of_getLsbD_eq
  intro i hi
  simp only [BitVec.getLsbD_and, BitVec.getLsbD_xor]
  cases (1#16).getLsbD i <;> simp
theorem par_tx (a : Wd) : par (tx a) = par a := by
  refine add_ext (f := fun a => par (tx a)) (g := par) (fun a b => by show par (tx (a ^^^ b)) = _; rw [tx_xor, par_xor]) par_xor ?_ a
  have : ∀ i : Fin 16, par (tx (pw i.val)) = par (pw i.val) := by decide
  exact fun i hi => this ⟨i, hi⟩
theorem par_pw (n : Nat) : par (pw n) = 1#16 := by
  induction n with
  | zero => decide
  | succ n ih => rw [pw, txn, par_tx]; exact ih
/-- A byte of a check sum. -/
def up (s : Wd) (c : Nat) : Wd := txn 8 (s ^^^ BitVec.ofNat 16 (256 * c))
def upd (s : Wd) (l : List Nat) : Wd := l.foldl up s
/-- Half a byte of it, by the table. -/
def tab (h : Nat) : Wd := txn 4 (BitVec.ofNat 16 (4096 * h))
def half (s : Wd) (h : Nat) : Wd := (s <<< 4) ^^^ tab ((s >>> 12) ^^^ BitVec.ofNat 16 h).toNat
theorem half_eq : ∀ (s : Wd) (h : Nat), h < 16 → half s h = txn 4 (s ^^^ BitVec.ofNat 16 (4096 * h)) := by
  have key : ∀ v : Wd, txn 4 v = (v <<< 4) ^^^ txn 4 ((v >>> 12) <<< 12) := by
    intro v
    refine add_ext (f := txn 4) (g := fun v => (v <<< 4) ^^^ txn 4 ((v >>> 12) <<< 12)) (txn_xor 4) (fun a b => by show _ ^^^ txn 4 (((a ^^^ b) >>> 12) <<< 12) = _; rw [BitVec.shiftLeft_xor_distrib, BitVec.ushiftRight_xor_distrib, BitVec.shiftLeft_xor_distrib, txn_xor, xor4]) ?_ v
    have : ∀ i : Fin 16, txn 4 (pw i.val) = ((pw i.val) <<< 4) ^^^ txn 4 (((pw i.val) >>> 12) <<< 12) := by decide
    exact fun i hi => this ⟨i, hi⟩
  intro s h hh
  have e1 : ∀ i : Fin 16, (BitVec.ofNat 16 (4096 * i.val)) <<< 4 = 0#16 ∧ (BitVec.ofNat 16 (4096 * i.val)) >>> 12 = BitVec.ofNat 16 i.val := by decide
  obtain ⟨e1, e2⟩ := e1 ⟨h, hh⟩
  simp only at e1 e2
  rw [key, BitVec.shiftLeft_xor_distrib, e1, BitVec.xor_zero, BitVec.ushiftRight_xor_distrib, e2, half, tab]
  congr 2
  rw [← BitVec.toNat_inj, BitVec.toNat_ofNat, BitVec.toNat_shiftLeft, Nat.shiftLeft_eq, Nat.mul_comm]
theorem half_half (s : Wd) (c : Nat) (hc : c < 256) : half (half s (c / 16)) (c % 16) = up s c := by
  rw [half_eq s _ (by omega), half_eq _ _ (by omega), up]
  have e1 : ∀ i : Fin 16, BitVec.ofNat 16 (4096 * i.val) = txn 4 (BitVec.ofNat 16 (256 * i.val)) := by decide
  have e2 : BitVec.ofNat 16 (256 * c) = BitVec.ofNat 16 (4096 * (c / 16)) ^^^ BitVec.ofNat 16 (256 * (c % 16)) := by
    have e3 : ((List.range 256).all fun c => BitVec.ofNat 16 (256 * c) == BitVec.ofNat 16 (4096 * (c / 16)) ^^^ BitVec.ofNat 16 (256 * (c % 16))) = true := by kernel_rfl
    rw [List.all_eq_true] at e3
    exact eq_of_beq (e3 c (List.mem_range.2 hc))
  have := e1 ⟨c % 16, by omega⟩
  simp only at this
  rw [this, e2, ← txn_xor, ← txn_add, BitVec.xor_assoc]
theorem up_xor (s t : Wd) (c d e : Nat) (h : BitVec.ofNat 16 (256 * e) = BitVec.ofNat 16 (256 * c) ^^^ BitVec.ofNat 16 (256 * d)) : up (s ^^^ t) e = up s c ^^^ up t d := by
  unfold up
  rw [h, ← txn_xor, xor4]
theorem up_zero (s : Wd) : up s 0 = txn 8 s := by unfold up; simp
theorem upd_append (s : Wd) (a b : List Nat) : upd s (a ++ b) = upd (upd s a) b := by unfold upd; rw [List.foldl_append]
theorem upd_shift (s t : Wd) (l : List Nat) : upd (s ^^^ t) l = txn (8 * l.length) s ^^^ upd t l := by
  induction l generalizing s t with
  | nil => rfl
  | cons c l ih =>
    have : up (s ^^^ t) c = txn 8 s ^^^ up t c := by rw [← up_zero]; exact up_xor s t 0 c c (by simp)
    rw [upd, List.foldl_cons, this, ← upd, ih, ← txn_add, List.length_cons, show 8 * l.length + 8 = 8 * (l.length + 1) by omega]
    rfl
end Go.Proofs.Ytelpdihaonoedaa
