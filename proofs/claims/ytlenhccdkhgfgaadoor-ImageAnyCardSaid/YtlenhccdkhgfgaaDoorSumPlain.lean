/-
  Plain facts on a register of 16 bits: a bit taken in is an exclusive or; what goes in by bytes; sums that are right.
-/
import Derived.Test.YtlenhccdkhgfgaaDoorBytesPlain
namespace Go.Proofs.YtlenhccdkhgfgaaDoor
open Go.RowKit

/-- The register behind one bit. -/
def mstep (r : BitVec 16) (b : Bool) : BitVec 16 := (r <<< 1) ^^^ (if r.msb ^^ b then 4129#16 else 0#16)

/-- The bit i of a byte. -/
def bt (x : Int) (i : Nat) : Bool := x / 2 ^ i % 2 == 1

/-- The register behind the first k bits of a byte, the highest first. -/
def mbits (r : BitVec 16) (x : Int) : Nat → BitVec 16
  | 0 => r
  | k + 1 => mstep (mbits r x k) (bt x (7 - k))

def mbyte (r : BitVec 16) (x : Int) : BitVec 16 := mbits r x 8

def mof (p : List Int) : BitVec 16 := p.foldl mbyte 65535#16

/-- No bit. -/
def mz (r : BitVec 16) : BitVec 16 := mstep r false

theorem mz_xor (r s : BitVec 16) : mz (r ^^^ s) = mz r ^^^ mz s := by
  unfold mz mstep
  rw [BitVec.shiftLeft_xor_distrib, BitVec.msb_xor]
  obtain ⟨A, hA⟩ : ∃ A, r <<< 1 = A := ⟨_, rfl⟩
  obtain ⟨B, hB⟩ : ∃ B, s <<< 1 = B := ⟨_, rfl⟩
  rw [hA, hB]
  cases r.msb <;> cases s.msb <;> simp only [Bool.xor_false, Bool.xor_true, Bool.not_false, Bool.not_true, if_true, Bool.false_eq_true, if_false, BitVec.xor_zero]
  · ac_rfl
  · ac_rfl
  · rw [show (A ^^^ 4129#16) ^^^ (B ^^^ 4129#16) = (A ^^^ B) ^^^ (4129#16 ^^^ 4129#16) by ac_rfl, BitVec.xor_self, BitVec.xor_zero]

/-- A bit that goes in is one at the top. -/
def top (b : Bool) : BitVec 16 := if b then 32768#16 else 0#16

theorem mstep_eq (r : BitVec 16) (b : Bool) : mstep r b = mz (r ^^^ top b) := by
  rw [mz_xor]
  have h0 : mz (top true) = 4129#16 := by decide
  have h1 : mz (top false) = 0#16 := by decide
  cases b
  · rw [h1, BitVec.xor_zero]; rfl
  · rw [h0]
    unfold mz mstep
    obtain ⟨A, hA⟩ : ∃ A, r <<< 1 = A := ⟨_, rfl⟩
    rw [hA]
    cases r.msb <;> simp only [Bool.xor_false, Bool.xor_true, Bool.not_false, Bool.not_true, if_true, Bool.false_eq_true, if_false, BitVec.xor_zero]
    rw [BitVec.xor_assoc, BitVec.xor_self, BitVec.xor_zero]

theorem mz_zero {r : BitVec 16} (h : mz r = 0#16) : r = 0#16 := by
  unfold mz mstep at h
  have h0 : ∀ i, ((r <<< 1) ^^^ (if r.msb ^^ false then 4129#16 else 0#16)).getLsbD i = false := fun i => by rw [h]; simp
  have hm : r.msb = false := by
    have := h0 0
    cases hm : r.msb
    · rfl
    · rw [hm] at this; simp at this
  rw [hm] at h0
  apply BitVec.eq_of_getLsbD_eq
  intro i hi
  by_cases e : i = 15
  · subst e
    rw [BitVec.msb_eq_getLsbD_last] at hm
    simpa using hm
  · have := h0 (i + 1)
    simp at this
    rw [this (by omega)]; simp

theorem mstep_xor (r s : BitVec 16) (b c : Bool) : mstep r b ^^^ mstep s c = mstep (r ^^^ s) (b ^^ c) := by
  rw [mstep_eq, mstep_eq, mstep_eq, ← mz_xor]
  congr 1
  rw [show (r ^^^ top b) ^^^ (s ^^^ top c) = (r ^^^ s) ^^^ (top b ^^^ top c) by ac_rfl]
  congr 1
  cases b <;> cases c <;> decide

/-- So many bits of 0. -/
def mzn : Nat → BitVec 16 → BitVec 16
  | 0, r => r
  | k + 1, r => mz (mzn k r)

theorem mzn_xor : ∀ (k : Nat) (r s : BitVec 16), mzn k (r ^^^ s) = mzn k r ^^^ mzn k s
  | 0, _, _ => rfl
  | k + 1, r, s => by simp only [mzn, mzn_xor k, mz_xor]

theorem mzn_zero : ∀ (k : Nat) (r : BitVec 16), mzn k r = 0#16 → r = 0#16
  | 0, _, h => h
  | k + 1, r, h => mzn_zero k r (mz_zero h)

theorem mzn_bit : ∀ k, k < 16 → mzn k (32768#16 >>> k) = 32768#16 := by decide

/-- The first k bits of a word, the highest first. -/
def hiW (W : BitVec 16) : Nat → BitVec 16
  | 0 => 0#16
  | k + 1 => hiW W k ^^^ (if W.getLsbD (15 - k) then 32768#16 >>> k else 0#16)

def mrun (r W : BitVec 16) : Nat → BitVec 16
  | 0 => r
  | k + 1 => mstep (mrun r W k) (W.getLsbD (15 - k))

theorem mzn_none : ∀ k, mzn k 0#16 = 0#16
  | 0 => rfl
  | k + 1 => by simp only [mzn, mzn_none k]; decide

theorem mrun_eq (r W : BitVec 16) : ∀ k, k ≤ 16 → mrun r W k = mzn k (r ^^^ hiW W k)
  | 0, _ => by simp [mrun, mzn, hiW]
  | k + 1, h => by
    simp only [mrun, mzn, hiW]
    rw [mrun_eq r W k (by omega), mstep_eq, ← BitVec.xor_assoc, mzn_xor k (r ^^^ hiW W k)]
    congr 2
    cases W.getLsbD (15 - k)
    · simp only [top, Bool.false_eq_true, if_false, mzn_none]
    · simp only [top, if_true, mzn_bit k (by omega)]

set_option maxRecDepth 100000 in
theorem hiW_all (W : BitVec 16) : hiW W 16 = W := by
  apply BitVec.eq_of_getLsbD_eq
  intro i hi
  have key : ∀ (b : Bool) (c : BitVec 16) (i : Nat), (if b then c else 0#16).getLsbD i = (b && c.getLsbD i) := fun b c i => by cases b <;> simp
  simp only [hiW, BitVec.getLsbD_xor, key]
  rcases (show i = 0 ∨ i = 1 ∨ i = 2 ∨ i = 3 ∨ i = 4 ∨ i = 5 ∨ i = 6 ∨ i = 7 ∨ i = 8 ∨ i = 9 ∨ i = 10 ∨ i = 11 ∨ i = 12 ∨ i = 13 ∨ i = 14 ∨ i = 15 by omega) with rfl | rfl | rfl | rfl | rfl | rfl | rfl | rfl | rfl | rfl | rfl | rfl | rfl | rfl | rfl | rfl <;> simp

/-- Two bytes as a word, the higher first. -/
def word (h l : Int) : BitVec 16 := BitVec.ofNat 16 (256 * h.toNat + l.toNat)

theorem bt_nat (x i : Nat) : bt (x : Int) i = x.testBit i := by
  unfold bt
  rw [Nat.testBit_eq_decide_div_mod_eq]
  have : ((x : Int) / 2 ^ i % 2 == 1) = decide (((x / 2 ^ i % 2 : Nat) : Int) = 1) := by push_cast; rw [Bool.eq_iff_iff]; simp
  rw [this]
  congr 1
  exact propext ⟨fun h => by exact_mod_cast h, fun h => by exact_mod_cast h⟩

theorem word_hi {h l : Int} (h0 : 0 ≤ h) (h1 : h ≤ 255) (l0 : 0 ≤ l) (l1 : l ≤ 255) (i : Nat) (hi : i < 8) : (word h l).getLsbD (8 + i) = bt h i := by
  obtain ⟨H, rfl⟩ := Int.eq_ofNat_of_zero_le h0
  obtain ⟨L, rfl⟩ := Int.eq_ofNat_of_zero_le l0
  rw [bt_nat]
  unfold word
  simp only [Int.toNat_natCast, BitVec.getLsbD_ofNat]
  rw [show decide (8 + i < 16) = true by simp; omega, Bool.true_and, Nat.testBit_eq_decide_div_mod_eq, Nat.testBit_eq_decide_div_mod_eq, Nat.pow_add, ← Nat.div_div_eq_div_mul]
  rw [show (256 * H + L) / 2 ^ 8 = H by omega]

theorem word_lo {h l : Int} (h0 : 0 ≤ h) (l0 : 0 ≤ l) (l1 : l ≤ 255) (i : Nat) (hi : i < 8) : (word h l).getLsbD i = bt l i := by
  obtain ⟨H, rfl⟩ := Int.eq_ofNat_of_zero_le h0
  obtain ⟨L, rfl⟩ := Int.eq_ofNat_of_zero_le l0
  rw [bt_nat]
  unfold word
  simp only [Int.toNat_natCast, BitVec.getLsbD_ofNat]
  rw [show decide (i < 16) = true by simp; omega, Bool.true_and, show 256 * H = 2 ^ 8 * H by rfl, Nat.testBit_two_pow_mul_add _ (by omega), if_pos hi]

theorem mbyte2 (r : BitVec 16) {h l : Int} (h0 : 0 ≤ h) (h1 : h ≤ 255) (l0 : 0 ≤ l) (l1 : l ≤ 255) : mbyte (mbyte r h) l = mzn 16 (r ^^^ word h l) := by
  have e := mrun_eq r (word h l) 16 (Nat.le_refl _)
  rw [hiW_all] at e
  rw [← e]
  have a := fun i hi => word_hi h0 h1 l0 l1 i hi
  have b := fun i hi => word_lo (h := h) h0 l0 l1 i hi
  simp only [mrun, mbyte, mbits, Nat.reduceSub, Nat.sub_zero]
  rw [← a 7 (by omega), ← a 6 (by omega), ← a 5 (by omega), ← a 4 (by omega), ← a 3 (by omega), ← a 2 (by omega), ← a 1 (by omega), ← a 0 (by omega),
    ← b 7 (by omega), ← b 6 (by omega), ← b 5 (by omega), ← b 4 (by omega), ← b 3 (by omega), ← b 2 (by omega), ← b 1 (by omega), ← b 0 (by omega)]

theorem mbyte2_zero (r : BitVec 16) {h l : Int} (h0 : 0 ≤ h) (h1 : h ≤ 255) (l0 : 0 ≤ l) (l1 : l ≤ 255) : mbyte (mbyte r h) l = 0#16 ↔ r = word h l := by
  rw [mbyte2 r h0 h1 l0 l1]
  constructor
  · intro e
    have e := mzn_zero 16 _ e
    have : r ^^^ word h l ^^^ word h l = 0#16 ^^^ word h l := by rw [e]
    rwa [BitVec.xor_assoc, BitVec.xor_self, BitVec.xor_zero, BitVec.zero_xor] at this
  · rintro rfl
    rw [BitVec.xor_self]; exact mzn_none 16

theorem xor_eq_zero {a b : BitVec 16} (h : a ^^^ b = 0#16) : a = b := by
  have : a ^^^ b ^^^ b = 0#16 ^^^ b := by rw [h]
  rwa [BitVec.xor_assoc, BitVec.xor_self, BitVec.xor_zero, BitVec.zero_xor] at this

theorem mzn_inj {k : Nat} {r s : BitVec 16} (h : mzn k r = mzn k s) : r = s := by
  apply xor_eq_zero
  apply mzn_zero k
  rw [mzn_xor, h, BitVec.xor_self]

theorem mstep_inj {r s : BitVec 16} {b : Bool} (h : mstep r b = mstep s b) : r = s := by
  rw [mstep_eq, mstep_eq] at h
  have h := mzn_inj (k := 1) h
  have : r ^^^ top b ^^^ top b = s ^^^ top b ^^^ top b := by rw [h]
  rwa [BitVec.xor_assoc, BitVec.xor_assoc, BitVec.xor_self, BitVec.xor_zero, BitVec.xor_zero] at this

theorem mbits_inj {r s : BitVec 16} {x : Int} : ∀ k, mbits r x k = mbits s x k → r = s
  | 0, h => h
  | k + 1, h => mbits_inj k (mstep_inj h)

theorem run_inj {r s : BitVec 16} : ∀ (B : List Int), B.foldl mbyte r = B.foldl mbyte s → r = s
  | [], h => h
  | _ :: B, h => mbits_inj 8 (run_inj B h)


theorem mof_two (m : List Int) (h l : Int) : mof (m ++ [h, l]) = mbyte (mbyte (mof m) h) l := by simp [mof]

/-- What is closed has the sum 0, and nothing else. -/
theorem mof_right (m : List Int) {h l : Int} (hb : Bytes [h, l]) : mof (m ++ [h, l]) = 0#16 ↔ mof m = word h l := by
  have a := hb h (by simp)
  have b := hb l (by simp)
  rw [mof_two, mbyte2_zero _ a.1 a.2 b.1 b.2]

theorem word_inj {h l h' l' : Int} (a : Bytes [h, l]) (b : Bytes [h', l']) (e : word h l = word h' l') : h = h' ∧ l = l' := by
  have a1 := a h (by simp)
  have a2 := a l (by simp)
  have b1 := b h' (by simp)
  have b2 := b l' (by simp)
  have := congrArg BitVec.toNat e
  unfold word at this
  simp only [BitVec.toNat_ofNat] at this
  omega

/-- A byte, some of its bits turned. -/
def xb (x a : Int) : Int := ((x.toNat ^^^ a.toNat : Nat) : Int)

theorem xb_byte {x a : Int} (h : 0 ≤ x ∧ x ≤ 255) (k : 0 ≤ a ∧ a ≤ 255) : 0 ≤ xb x a ∧ xb x a ≤ 255 := by
  have := Nat.xor_lt_two_pow (n := 8) (show x.toNat < 2 ^ 8 by omega) (show a.toNat < 2 ^ 8 by omega)
  unfold xb; omega

theorem xb_self {x a : Int} (h : 0 ≤ x) (k : 0 ≤ a) (e : xb x a = x) : a = 0 := by
  unfold xb at e
  have e2 : x.toNat ^^^ a.toNat = x.toNat := by omega
  have : x.toNat ^^^ (x.toNat ^^^ a.toNat) = x.toNat ^^^ x.toNat := by rw [e2]
  rw [← Nat.xor_assoc, Nat.xor_self, Nat.zero_xor] at this
  omega

/-- Two bytes side by side, turned, are shown. -/
theorem shown (A B : List Int) {x y a b : Int} (hx : 0 ≤ x ∧ x ≤ 255) (hy : 0 ≤ y ∧ y ≤ 255) (ha : 0 ≤ a ∧ a ≤ 255) (hb : 0 ≤ b ∧ b ≤ 255)
    (e : mof (A ++ xb x a :: xb y b :: B) = mof (A ++ x :: y :: B)) : a = 0 ∧ b = 0 := by
  have h1 := xb_byte hx ha
  have h2 := xb_byte hy hb
  simp only [mof, List.foldl_append, List.foldl_cons] at e
  have e := run_inj B e
  rw [mbyte2 _ h1.1 h1.2 h2.1 h2.2, mbyte2 _ hx.1 hx.2 hy.1 hy.2] at e
  have e := mzn_inj e
  have e2 : word (xb x a) (xb y b) = word x y := by
    have := congrArg (fun z => List.foldl mbyte 65535#16 A ^^^ z) e
    simpa [← BitVec.xor_assoc] using this
  have e3 := word_inj (fun z hz => by simp at hz; rcases hz with rfl | rfl <;> assumption) (fun z hz => by simp at hz; rcases hz with rfl | rfl <;> assumption) e2
  exact ⟨xb_self hx.1 ha.1 e3.1, xb_self hy.1 hb.1 e3.2⟩

theorem word_int {h l : Int} (hb : Bytes [h, l]) : ((word h l).toNat : Int) = 256 * h + l := by
  have a1 := hb h (by simp)
  have a2 := hb l (by simp)
  unfold word
  simp only [BitVec.toNat_ofNat]
  omega

/-- The two bytes of a word. -/
theorem word_parts (r : BitVec 16) : word ((r.toNat : Int) / 256) ((r.toNat : Int) % 256) = r := by
  apply BitVec.eq_of_toNat_eq
  have := r.isLt
  unfold word
  simp only [BitVec.toNat_ofNat]
  omega

theorem letters_sum : mof [49, 50, 51, 52, 53, 54, 55, 56, 57] = 10673#16 := by decide +kernel

end Go.Proofs.YtlenhccdkhgfgaaDoor
