/- Sums of bytes, plainly: the register as a linear map on numbers; a burst is seen. No program in it. -/
import Derived.Test.YtoakokpeomlkjaaDoorRows
namespace Go.Proofs.YtoakokpeomlkjaaDoor
namespace Cr
def PP : Nat := 3988292384
def FF : Nat := 4294967295
/-- One step of the register with no bit laid against it. -/
def st (r : Nat) : Nat := r / 2 ^^^ (r % 2 * PP)
def stn : Nat → Nat → Nat
  | 0, r => r
  | n + 1, r => stn n (st r)
theorem st_xor (a b : Nat) : st (a ^^^ b) = st a ^^^ st b := by
  have h1 : (a ^^^ b) / 2 = a / 2 ^^^ b / 2 := Nat.xor_div_two
  have h2 : (a ^^^ b) % 2 = (a + b) % 2 := by
    have e := Nat.testBit_xor a b 0
    simp only [Nat.testBit_zero] at e
    rcases Nat.mod_two_eq_zero_or_one a with ha | ha <;> rcases Nat.mod_two_eq_zero_or_one b with hb | hb <;> rcases Nat.mod_two_eq_zero_or_one (a ^^^ b) with hc | hc <;> simp [ha, hb, hc] at e <;> omega
  unfold st
  rw [h1, h2]
  rcases Nat.mod_two_eq_zero_or_one a with ha | ha <;> rcases Nat.mod_two_eq_zero_or_one b with hb | hb
  · rw [show (a + b) % 2 = 0 by omega, ha, hb]; simp
  · rw [show (a + b) % 2 = 1 by omega, ha, hb]; simp [Nat.xor_assoc]
  · rw [show (a + b) % 2 = 1 by omega, ha, hb]
    simp only [Nat.one_mul, Nat.zero_mul, Nat.xor_zero]
    rw [Nat.xor_assoc, Nat.xor_comm (b / 2), ← Nat.xor_assoc]
  · rw [show (a + b) % 2 = 0 by omega, ha, hb]
    simp only [Nat.one_mul, Nat.zero_mul, Nat.xor_zero]
    rw [Nat.xor_assoc, ← Nat.xor_assoc PP, Nat.xor_comm PP, Nat.xor_assoc (b / 2), Nat.xor_self, Nat.xor_zero]
theorem st_two (y : Nat) : st (2 * y) = y := by
  unfold st
  rw [show 2 * y / 2 = y by omega, show 2 * y % 2 = 0 by omega]; simp
theorem st_zero : st 0 = 0 := by simp [st]
theorem st_lt {r : Nat} (h : r < 4294967296) : st r < 4294967296 := by
  have : r / 2 ^^^ (r % 2 * PP) < 2 ^ 32 := Nat.xor_lt_two_pow (by omega) (by rcases Nat.mod_two_eq_zero_or_one r with e | e <;> rw [e] <;> simp [PP])
  simpa [st] using this
theorem xor_zero_eq {a b : Nat} (h : a ^^^ b = 0) : a = b := by
  have : a ^^^ b ^^^ b = b := by rw [h, Nat.zero_xor]
  rwa [Nat.xor_assoc, Nat.xor_self, Nat.xor_zero] at this
theorem st_ne {r : Nat} (h : r < 4294967296) (h0 : r ≠ 0) : st r ≠ 0 := by
  intro e
  have := xor_zero_eq e
  rcases Nat.mod_two_eq_zero_or_one r with e | e
  · rw [e] at this; omega
  · rw [e] at this; simp only [PP] at this; omega
theorem stn_xor (n : Nat) : ∀ a b, stn n (a ^^^ b) = stn n a ^^^ stn n b := by
  induction n with
  | zero => intro a b; rfl
  | succ n ih => intro a b; rw [stn, st_xor, ih]; rfl
theorem stn_add (m n : Nat) : ∀ r, stn (m + n) r = stn n (stn m r) := by
  induction m with
  | zero => intro r; rw [Nat.zero_add]; rfl
  | succ m ih => intro r; rw [show m + 1 + n = (m + n) + 1 by omega, stn, ih]; rfl
theorem stn_succ (n r : Nat) : stn (n + 1) r = st (stn n r) := stn_add n 1 r
theorem stn_shift (n : Nat) : ∀ y, stn n (y <<< n) = y := by
  induction n with
  | zero => intro y; rfl
  | succ n ih =>
    intro y
    rw [stn, show y <<< (n + 1) = 2 * (y <<< n) by rw [Nat.shiftLeft_succ], st_two, ih]
theorem stn_lt (n : Nat) : ∀ {r : Nat}, r < 4294967296 → stn n r < 4294967296 := by
  induction n with
  | zero => intro r h; exact h
  | succ n ih => intro r h; exact ih (st_lt h)
theorem stn_ne (n : Nat) : ∀ {r : Nat}, r < 4294967296 → r ≠ 0 → stn n r ≠ 0 := by
  induction n with
  | zero => intro r _ h; exact h
  | succ n ih => intro r h h0; exact ih (st_lt h) (st_ne h h0)
theorem xor32 {a b : Nat} (ha : a < 4294967296) (hb : b < 4294967296) : a ^^^ b < 4294967296 := by
  have : a ^^^ b < 2 ^ 32 := Nat.xor_lt_two_pow (by omega) (by omega)
  simpa using this
theorem stn_inj (n : Nat) {a b : Nat} (ha : a < 4294967296) (hb : b < 4294967296) (h : stn n a = stn n b) : a = b := by
  apply Classical.byContradiction
  intro hne
  refine stn_ne n (r := a ^^^ b) (xor32 ha hb) (fun e => hne (xor_zero_eq e)) ?_
  rw [stn_xor, h, Nat.xor_self]
theorem xor_cancel (a b : Nat) : a ^^^ b ^^^ b = a := by rw [Nat.xor_assoc, Nat.xor_self, Nat.xor_zero]
/-- Four bits at once. -/
theorem split16 (r : Nat) : r = (r / 16) <<< 4 ^^^ r % 16 := by
  apply Nat.eq_of_testBit_eq
  intro i
  rw [Nat.testBit_xor, Nat.testBit_shiftLeft, show (16 : Nat) = 2 ^ 4 from rfl, Nat.testBit_mod_two_pow, Nat.testBit_div_two_pow]
  by_cases h : i < 4
  · simp [h, show ¬ 4 ≤ i by omega]
  · simp [h, show 4 ≤ i by omega]
theorem stn4 (r : Nat) : stn 4 r = r / 16 ^^^ stn 4 (r % 16) := by
  have h := congrArg (stn 4) (split16 r)
  rwa [stn_xor, stn_shift] at h
/-- The table, as the program's text lays it. -/
def tabL : List Nat := [0, 498536548, 997073096, 651767980, 1994146192, 1802195444, 1303535960, 1342533948, 3988292384, 4027552580, 3604390888, 3412177804, 2607071920, 2262029012, 2685067896, 3183342108]
theorem tab_stn : ∀ i, i < 16 → stn 4 i = tabL.getD i 0 := by decide
/-- Bytes as a number, the lowest first. -/
def nm : List Nat → Nat
  | [] => 0
  | x :: xs => x ^^^ (nm xs <<< 8)
/-- The register behind bytes. -/
def reg (r : Nat) (bs : List Nat) : Nat := bs.foldl (fun r x => stn 8 (r ^^^ x)) r
theorem reg_nil (r : Nat) : reg r [] = r := rfl
theorem reg_app (r : Nat) (a b : List Nat) : reg r (a ++ b) = reg (reg r a) b := by simp [reg, List.foldl_append]
theorem reg_one (r x : Nat) : reg r [x] = stn 8 (r ^^^ x) := rfl
theorem reg_eq : ∀ (bs : List Nat) (r : Nat), reg r bs = stn (8 * bs.length) (r ^^^ nm bs)
  | [], r => by simp [reg, nm, stn]
  | x :: xs, r => by
    have ih := reg_eq xs (stn 8 (r ^^^ x))
    show reg (stn 8 (r ^^^ x)) xs = _
    rw [ih, List.length_cons, show 8 * (xs.length + 1) = 8 + 8 * xs.length by omega, stn_add, nm, ← Nat.xor_assoc, stn_xor 8 (r ^^^ x), stn_shift]
theorem reg_lt {r : Nat} {bs : List Nat} (h : r < 4294967296) (hb : ∀ x ∈ bs, x ≤ 255) : reg r bs < 4294967296 := by
  induction bs generalizing r with
  | nil => exact h
  | cons x xs ih =>
    have hx := hb x (by simp)
    exact ih (stn_lt 8 (xor32 h (by omega))) (fun y hy => hb y (by simp [hy]))
/-- The sum, and the sum of more. -/
def more (s : Nat) (bs : List Nat) : Nat := reg (s ^^^ FF) bs ^^^ FF
def crc (bs : List Nat) : Nat := more 0 bs
theorem more_app (s : Nat) (a b : List Nat) : more (more s a) b = more s (a ++ b) := by
  unfold more
  rw [xor_cancel, reg_app]
theorem more_nil (s : Nat) : more s [] = s := by
  unfold more
  rw [reg_nil, xor_cancel]
theorem more_lt {s : Nat} {bs : List Nat} (h : s < 4294967296) (hb : ∀ x ∈ bs, x ≤ 255) : more s bs < 4294967296 :=
  xor32 (reg_lt (xor32 h (by decide)) hb) (by decide)
theorem crc_lt {bs : List Nat} (hb : ∀ x ∈ bs, x ≤ 255) : crc bs < 4294967296 := more_lt (by decide) hb
/-! ### Rows together -/
def xl (a b : List Nat) : List Nat := List.zipWith (· ^^^ ·) a b
theorem nm_xl : ∀ (a b : List Nat), a.length = b.length → nm (xl a b) = nm a ^^^ nm b
  | [], [], _ => rfl
  | x :: xs, y :: ys, h => by
    have ih := nm_xl xs ys (by simpa using h)
    show (x ^^^ y) ^^^ (nm (xl xs ys) <<< 8) = _
    rw [ih, Nat.shiftLeft_xor_distrib, nm, nm]
    rw [Nat.xor_assoc, Nat.xor_assoc, ← Nat.xor_assoc y, Nat.xor_comm y, Nat.xor_assoc]
theorem xl_len {a b : List Nat} (h : a.length = b.length) : (xl a b).length = a.length := by simp [xl, h]
theorem crc_three {a b c : List Nat} (h1 : b.length = a.length) (h2 : c.length = a.length) : crc a ^^^ crc b ^^^ crc c = crc (xl (xl a b) c) := by
  have l1 := xl_len h1.symm
  have l2 := xl_len (a := xl a b) (b := c) (by omega)
  unfold crc more
  rw [reg_eq, reg_eq, reg_eq, reg_eq, l2, l1, h1, h2, nm_xl _ _ (by omega), nm_xl _ _ h1.symm]
  simp only [stn_xor, Nat.zero_xor]
  generalize stn (8 * a.length) FF = f
  generalize stn (8 * a.length) (nm a) = x
  generalize stn (8 * a.length) (nm b) = y
  generalize stn (8 * a.length) (nm c) = z
  apply Nat.eq_of_testBit_eq
  intro i
  simp only [Nat.testBit_xor]
  cases f.testBit i <;> cases x.testBit i <;> cases y.testBit i <;> cases z.testBit i <;> cases FF.testBit i <;> rfl
/-! ### A burst -/
theorem burst_ne {r : Nat} {b c : List Nat} {v k : Nat} (hl : c.length = b.length) (hv : v < 4294967296) (h0 : v ≠ 0) (hk : k ≤ 8 * b.length) (hn : nm c = nm b ^^^ v <<< k) : reg r c ≠ reg r b := by
  intro e
  rw [reg_eq, reg_eq, hl, hn, ← Nat.xor_assoc, stn_xor _ (r ^^^ nm b)] at e
  have e2 : stn (8 * b.length) (v <<< k) = 0 := by
    have h3 := congrArg (fun t => stn (8 * b.length) (r ^^^ nm b) ^^^ t) e
    simp only [← Nat.xor_assoc, Nat.xor_self, Nat.zero_xor] at h3
    exact h3
  rw [show 8 * b.length = k + (8 * b.length - k) by omega, stn_add, stn_shift] at e2
  exact stn_ne _ hv h0 e2
theorem crc_burst {b c : List Nat} {v k : Nat} (hl : c.length = b.length) (hv : v < 4294967296) (h0 : v ≠ 0) (hk : k ≤ 8 * b.length) (hn : nm c = nm b ^^^ v <<< k) : crc b ≠ crc c := by
  intro e
  have := congrArg (fun t => t ^^^ FF) e
  unfold crc more at this
  simp only [xor_cancel] at this
  exact burst_ne hl hv h0 hk hn this.symm
theorem nm_set : ∀ (l : List Nat) (j y : Nat), j < l.length → nm (l.set j (l.getD j 0 ^^^ y)) = nm l ^^^ y <<< (8 * j)
  | [], _, _, h => by simp at h
  | x :: xs, 0, y, _ => by
    simp only [List.set_cons_zero, nm, List.getD_cons_zero, Nat.mul_zero, Nat.shiftLeft_zero]
    rw [Nat.xor_assoc, Nat.xor_comm y, ← Nat.xor_assoc]
  | x :: xs, j + 1, y, h => by
    have ih := nm_set xs j y (by simpa using h)
    simp only [List.set_cons_succ, nm, List.getD_cons_succ]
    rw [ih, Nat.shiftLeft_xor_distrib, Nat.xor_assoc, ← Nat.shiftLeft_add, show 8 * j + 8 = 8 * (j + 1) by omega]
theorem mod_turn {v i : Nat} (h : v.testBit i = true) : v % 2 ^ (i + 1) = v % 2 ^ i ^^^ 1 <<< i := by
  apply Nat.eq_of_testBit_eq
  intro j
  rw [Nat.testBit_xor, Nat.testBit_mod_two_pow, Nat.testBit_mod_two_pow, Nat.one_shiftLeft, Nat.testBit_two_pow]
  by_cases e : i = j
  · subst e; simp [h]
  · by_cases hj : j < i
    · simp [e, hj, show j < i + 1 by omega]
    · simp [e, hj, show ¬ j < i + 1 by omega]
theorem mod_same {v i : Nat} (h : v.testBit i = false) : v % 2 ^ (i + 1) = v % 2 ^ i := by
  apply Nat.eq_of_testBit_eq
  intro j
  rw [Nat.testBit_mod_two_pow, Nat.testBit_mod_two_pow]
  by_cases e : i = j
  · subst e; simp [h]
  · by_cases hj : j < i
    · simp [hj, show j < i + 1 by omega]
    · simp [hj, show ¬ j < i + 1 by omega]
/-! ### Sealing -/
def le4 (s : Nat) : List Nat := [s % 256, s / 256 % 256, s / 65536 % 256, s / 16777216 % 256]
theorem nm_app : ∀ (a b : List Nat), nm (a ++ b) = nm a ^^^ nm b <<< (8 * a.length)
  | [], b => by simp [nm]
  | x :: xs, b => by
    have ih := nm_app xs b
    simp only [List.cons_append, nm, List.length_cons]
    rw [ih, Nat.shiftLeft_xor_distrib, ← Nat.shiftLeft_add, show 8 * xs.length + 8 = 8 * (xs.length + 1) by omega, Nat.xor_assoc]
theorem nm_lt : ∀ (l : List Nat), (∀ x ∈ l, x ≤ 255) → nm l < 2 ^ (8 * l.length)
  | [], _ => by simp [nm]
  | x :: xs, h => by
    have ih := nm_lt xs (fun y hy => h y (by simp [hy]))
    have hx := h x (by simp)
    rw [nm, List.length_cons, show 8 * (xs.length + 1) = 8 * xs.length + 8 by omega]
    refine Nat.xor_lt_two_pow (Nat.lt_of_lt_of_le (show x < 2 ^ 8 by omega) (Nat.pow_le_pow_right (by decide) (by omega))) ?_
    rw [Nat.shiftLeft_eq, Nat.pow_add]
    exact Nat.mul_lt_mul_of_pos_right ih (by decide)
theorem or_xor {a k : Nat} (x : Nat) (h : a < 2 ^ k) : a ||| x <<< k = a ^^^ x <<< k := by
  apply Nat.eq_of_testBit_eq
  intro i
  rw [Nat.testBit_or, Nat.testBit_xor, Nat.testBit_shiftLeft]
  by_cases hi : k ≤ i
  · rw [Nat.testBit_lt_two_pow (Nat.lt_of_lt_of_le h (Nat.pow_le_pow_right (by decide) hi))]; simp
  · simp [hi]
theorem xor_add {a k : Nat} (x : Nat) (h : a < 2 ^ k) : a ^^^ x <<< k = a + x * 2 ^ k := by
  rw [← or_xor x h, Nat.or_comm, ← Nat.shiftLeft_add_eq_or_of_lt h, Nat.shiftLeft_eq, Nat.add_comm]
theorem nm_four {a b c d : Nat} (ha : a ≤ 255) (hb : b ≤ 255) (hc : c ≤ 255) : nm [a, b, c, d] = a + 256 * b + 65536 * c + 16777216 * d := by
  simp only [nm]
  rw [Nat.zero_shiftLeft, Nat.xor_zero, xor_add d (show c < 2 ^ 8 by omega), xor_add _ (show b < 2 ^ 8 by omega), xor_add _ (show a < 2 ^ 8 by omega)]
  omega
theorem nm_le4 {s : Nat} (h : s < 4294967296) : nm (le4 s) = s := by
  rw [le4, nm_four (by omega) (by omega) (by omega)]; omega
theorem le4_nm {a b c d : Nat} (ha : a ≤ 255) (hb : b ≤ 255) (hc : c ≤ 255) (hd : d ≤ 255) : le4 (nm [a, b, c, d]) = [a, b, c, d] := by
  rw [nm_four ha hb hc]
  simp only [le4, List.cons.injEq, and_true]
  omega
theorem le4_le (s : Nat) : ∀ x ∈ le4 s, x ≤ 255 := by
  intro x hx
  simp [le4] at hx
  omega
/-- What is opened: just what leaves the register at one number. -/
theorem open_iff {d t : List Nat} (hd : ∀ x ∈ d, x ≤ 255) (ht : ∀ x ∈ t, x ≤ 255) (h4 : t.length = 4) : nm t = crc d ↔ reg FF (d ++ t) = stn 32 FF := by
  have hF : FF < 4294967296 := by decide
  have h1 : nm t < 4294967296 := by have := nm_lt t ht; rw [h4] at this; simpa using this
  have h2 := reg_lt hF hd
  rw [reg_app, reg_eq t, h4]
  unfold crc more
  rw [Nat.zero_xor]
  constructor
  · intro e
    rw [e, ← Nat.xor_assoc, Nat.xor_self, Nat.zero_xor]
  · intro e
    have e1 := stn_inj 32 (xor32 h2 h1) hF e
    have e2 : reg FF d ^^^ (reg FF d ^^^ nm t) = reg FF d ^^^ FF := congrArg (fun t => reg FF d ^^^ t) e1
    rwa [← Nat.xor_assoc, Nat.xor_self, Nat.zero_xor] at e2
/-! ### The document's way: bit by bit -/
theorem ref_step (y d : Nat) (hd : d ≤ 1) : (if y % 2 = d then y / 2 else y / 2 ^^^ PP) = st (y ^^^ d) := by
  rw [st_xor]
  have hd' : d = 0 ∨ d = 1 := by omega
  rcases hd' with rfl | rfl
  · rw [st_zero, Nat.xor_zero]
    unfold st
    rcases Nat.mod_two_eq_zero_or_one y with e | e <;> rw [e] <;> simp
  · have : st 1 = PP := by decide
    rw [this]
    unfold st
    rcases Nat.mod_two_eq_zero_or_one y with e | e <;> rw [e] <;> simp
    rw [Nat.xor_assoc, Nat.xor_self, Nat.xor_zero]
/-- The register behind k bits of a byte. -/
def part (r x k : Nat) : Nat := stn k (r ^^^ x) ^^^ x / 2 ^ k
theorem part_zero (r x : Nat) : part r x 0 = r := by
  unfold part
  rw [Nat.pow_zero, Nat.div_one]
  exact xor_cancel r x
theorem part_all {r x : Nat} (h : x ≤ 255) : part r x 8 = stn 8 (r ^^^ x) := by
  unfold part
  rw [Nat.div_eq_of_lt (by omega), Nat.xor_zero]
theorem part_next (r x k : Nat) : part r x (k + 1) = st (part r x k ^^^ x / 2 ^ k % 2) := by
  unfold part
  rw [stn_succ, Nat.xor_assoc, st_xor (stn k (r ^^^ x))]
  congr 1
  rw [Nat.pow_succ, ← Nat.div_div_eq_div_mul]
  generalize x / 2 ^ k = z
  rw [st_xor]
  unfold st
  rcases Nat.mod_two_eq_zero_or_one z with e | e <;> rw [e] <;> simp
  rw [Nat.xor_assoc, Nat.xor_self, Nat.xor_zero]
theorem part_lt {r x k : Nat} (h : r < 4294967296) (hx : x ≤ 255) : part r x k < 4294967296 := by
  unfold part
  exact xor32 (stn_lt k (xor32 h (by omega))) (Nat.lt_of_le_of_lt (Nat.div_le_self _ _) (by omega))
end Cr
end Go.Proofs.YtoakokpeomlkjaaDoor
