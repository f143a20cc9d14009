/- The plain mathematics of layer 2 (seal): the check sum, byte by byte and by a table; that it tells one byte from another. Numbers and lists alone: nothing of the program. -/
import Derived.Laws.BytesArg
namespace Copyhold

/-- a register turned once -/
def crcT (r : Nat) : Nat := if r % 2 = 1 then (r / 2) ^^^ 2197175160 else r / 2
/-- eight times -/
def crcT8 (r : Nat) : Nat := crcT (crcT (crcT (crcT (crcT (crcT (crcT (crcT r)))))))
def crcStep (c : Nat) (b : UInt8) : Nat := crcT8 (c ^^^ b.toNat)
def crcMore (c : Nat) (l : List UInt8) : Nat := l.foldl crcStep c
def crcSum (l : List UInt8) : Nat := crcMore 4294967295 l ^^^ 4294967295
/-- a sum's four bytes -/
def tailB (c : Nat) : List UInt8 := [UInt8.ofNat (c % 256), UInt8.ofNat (c / 256 % 256), UInt8.ofNat (c / 65536 % 256), UInt8.ofNat (c / 16777216 % 256)]
def putB (l : List UInt8) : List UInt8 := l ++ tailB (crcSum l)
def takeS (l : List UInt8) : List UInt8 × Int :=
  if l.length < 4 then ([], 2) else if l.drop (l.length - 4) = tailB (crcSum (l.take (l.length - 4))) then (l.take (l.length - 4), 0) else ([], 4)

theorem lt_pow {n k : Nat} (h : n < 2 ^ k) : n < 2 ^ k := h
theorem crcT_lt (r : Nat) (h : r < 4294967296) : crcT r < 4294967296 := by
  unfold crcT
  split
  · exact Nat.xor_lt_two_pow (n := 32) (by omega) (by decide)
  · omega
theorem crcT8_lt (r : Nat) (h : r < 4294967296) : crcT8 r < 4294967296 :=
  crcT_lt _ (crcT_lt _ (crcT_lt _ (crcT_lt _ (crcT_lt _ (crcT_lt _ (crcT_lt _ (crcT_lt _ h)))))))
theorem crcStep_lt (c : Nat) (b : UInt8) (h : c < 4294967296) : crcStep c b < 4294967296 := by
  have hb := b.toNat_lt
  exact crcT8_lt _ (Nat.xor_lt_two_pow (n := 32) (by omega) (by omega))
theorem crcMore_lt (l : List UInt8) : ∀ c, c < 4294967296 → crcMore c l < 4294967296 := by
  induction l with
  | nil => intro c h; exact h
  | cons b r ih => intro c h; exact ih _ (crcStep_lt c b h)
theorem crcSum_lt (l : List UInt8) : crcSum l < 4294967296 := Nat.xor_lt_two_pow (n := 32) (crcMore_lt l _ (by decide)) (by decide)

theorem crcT_xor (x y : Nat) : crcT (x ^^^ y) = crcT x ^^^ crcT y := by
  unfold crcT
  rw [Nat.xor_div_two]
  have hm : (x ^^^ y) % 2 = 1 ↔ ¬(x % 2 = 1 ↔ y % 2 = 1) := Nat.xor_mod_two_eq_one
  by_cases hx : x % 2 = 1 <;> by_cases hy : y % 2 = 1
  · rw [if_pos hx, if_pos hy, if_neg (by rw [hm]; simp [hx, hy]), Nat.xor_assoc, Nat.xor_comm 2197175160, Nat.xor_assoc (y / 2), Nat.xor_self, Nat.xor_zero]
  · rw [if_pos hx, if_neg hy, if_pos (by rw [hm]; simp [hx, hy]), Nat.xor_assoc, Nat.xor_comm (y / 2), ← Nat.xor_assoc]
  · rw [if_neg hx, if_pos hy, if_pos (by rw [hm]; simp [hx, hy]), Nat.xor_assoc]
  · rw [if_neg hx, if_neg hy, if_neg (by rw [hm]; simp [hx, hy])]
theorem crcT8_xor (x y : Nat) : crcT8 (x ^^^ y) = crcT8 x ^^^ crcT8 y := by simp only [crcT8, crcT_xor]
theorem crcT_even (m : Nat) : crcT (2 * m) = m := by unfold crcT; rw [if_neg (by omega)]; omega
theorem crcT8_high (h : Nat) : crcT8 (256 * h) = h := by
  unfold crcT8
  rw [show 256 * h = 2 * (128 * h) from by omega, crcT_even, show 128 * h = 2 * (64 * h) from by omega, crcT_even, show 64 * h = 2 * (32 * h) from by omega, crcT_even,
    show 32 * h = 2 * (16 * h) from by omega, crcT_even, show 16 * h = 2 * (8 * h) from by omega, crcT_even, show 8 * h = 2 * (4 * h) from by omega, crcT_even,
    show 4 * h = 2 * (2 * h) from by omega, crcT_even, crcT_even]
theorem split256 (c : Nat) : c = (256 * (c / 256)) ^^^ (c % 256) := by
  have h := Nat.two_pow_add_eq_or_of_lt (i := 8) (b := c % 256) (Nat.mod_lt _ (by decide)) (c / 256)
  have e : 2 ^ 8 * (c / 256) + c % 256 = c := by omega
  apply Nat.eq_of_testBit_eq
  intro i
  rw [Nat.testBit_xor]
  conv => lhs; rw [← e]
  rw [h, Nat.testBit_or, show 256 * (c / 256) = 2 ^ 8 * (c / 256) from rfl, Nat.testBit_two_pow_mul, show c % 256 = c % 2 ^ 8 from rfl, Nat.testBit_mod_two_pow]
  by_cases h8 : 8 ≤ i
  · have : ¬ i < 8 := by omega
    simp [this]
  · simp [h8]
/-- by the table -/
theorem crcStep_table (c : Nat) (b : UInt8) : crcStep c b = (c / 256) ^^^ crcT8 ((c % 256) ^^^ b.toNat) := by
  unfold crcStep
  conv => lhs; rw [split256 c]
  rw [Nat.xor_assoc, crcT8_xor, crcT8_high]

/-- turning loses nothing -/
theorem crcT_inj {x y : Nat} (hx : x < 4294967296) (hy : y < 4294967296) (h : crcT x = crcT y) : x = y := by
  have key : ∀ a b : Nat, a < 4294967296 → b < 4294967296 → a % 2 = 1 → b % 2 = 0 → crcT a ≠ crcT b := by
    intro a b ha hb h1 h0 he
    unfold crcT at he
    rw [if_pos h1, if_neg (by omega)] at he
    have t1 : Nat.testBit (a / 2 ^^^ 2197175160) 31 = true := by
      rw [Nat.testBit_xor]
      have : Nat.testBit (a / 2) 31 = false := Nat.testBit_lt_two_pow (by omega)
      rw [this]; decide
    have t2 : Nat.testBit (b / 2) 31 = false := Nat.testBit_lt_two_pow (by omega)
    rw [he, t2] at t1
    cases t1
  by_cases h1 : x % 2 = 1 <;> by_cases h2 : y % 2 = 1
  · unfold crcT at h
    rw [if_pos h1, if_pos h2] at h
    have := congrArg (· ^^^ 2197175160) h
    simp only [Nat.xor_assoc, Nat.xor_self, Nat.xor_zero] at this
    omega
  · exact absurd h (key x y hx hy h1 (by omega))
  · exact absurd h.symm (key y x hy hx h2 (by omega))
  · unfold crcT at h
    rw [if_neg h1, if_neg h2] at h
    omega
theorem crcT8_inj {x y : Nat} (hx : x < 4294967296) (hy : y < 4294967296) (h : crcT8 x = crcT8 y) : x = y := by
  have l1 := fun r hr => crcT_lt r hr
  exact crcT_inj hx hy (crcT_inj (l1 _ hx) (l1 _ hy) (crcT_inj (l1 _ (l1 _ hx)) (l1 _ (l1 _ hy)) (crcT_inj (l1 _ (l1 _ (l1 _ hx))) (l1 _ (l1 _ (l1 _ hy)))
    (crcT_inj (l1 _ (l1 _ (l1 _ (l1 _ hx)))) (l1 _ (l1 _ (l1 _ (l1 _ hy)))) (crcT_inj (l1 _ (l1 _ (l1 _ (l1 _ (l1 _ hx))))) (l1 _ (l1 _ (l1 _ (l1 _ (l1 _ hy)))))
      (crcT_inj (l1 _ (l1 _ (l1 _ (l1 _ (l1 _ (l1 _ hx)))))) (l1 _ (l1 _ (l1 _ (l1 _ (l1 _ (l1 _ hy))))))
        (crcT_inj (l1 _ (l1 _ (l1 _ (l1 _ (l1 _ (l1 _ (l1 _ hx))))))) (l1 _ (l1 _ (l1 _ (l1 _ (l1 _ (l1 _ (l1 _ hy))))))) h)))))))
theorem xor_cancel {a b c : Nat} (h : a ^^^ c = b ^^^ c) : a = b := by
  have := congrArg (· ^^^ c) h
  simpa only [Nat.xor_assoc, Nat.xor_self, Nat.xor_zero] using this
theorem crcStep_inj {c d : Nat} (hc : c < 4294967296) (hd : d < 4294967296) (b : UInt8) (h : crcStep c b = crcStep d b) : c = d := by
  have hb := b.toNat_lt
  exact xor_cancel (crcT8_inj (Nat.xor_lt_two_pow (n := 32) (by omega) (by omega)) (Nat.xor_lt_two_pow (n := 32) (by omega) (by omega)) h)
theorem crcMore_inj (l : List UInt8) : ∀ {c d : Nat}, c < 4294967296 → d < 4294967296 → crcMore c l = crcMore d l → c = d := by
  induction l with
  | nil => intro c d _ _ h; exact h
  | cons b r ih => intro c d hc hd h; exact crcStep_inj hc hd b (ih (crcStep_lt c b hc) (crcStep_lt d b hd) h)
theorem crcStep_byte {c : Nat} (hc : c < 4294967296) {b b' : UInt8} (h : crcStep c b = crcStep c b') : b = b' := by
  have h1 := b.toNat_lt
  have h2 := b'.toNat_lt
  have := crcT8_inj (Nat.xor_lt_two_pow (n := 32) (by omega) (by omega)) (Nat.xor_lt_two_pow (n := 32) (by omega) (by omega)) h
  rw [Nat.xor_comm c, Nat.xor_comm c] at this
  exact UInt8.toNat_inj.1 (xor_cancel this)
theorem crcMore_append (c : Nat) (a b : List UInt8) : crcMore c (a ++ b) = crcMore (crcMore c a) b := by simp [crcMore, List.foldl_append]
/-- one byte that differs is seen -/
theorem crcMore_one {c : Nat} (hc : c < 4294967296) (a r : List UInt8) {b b' : UInt8} (h : crcMore c (a ++ b :: r) = crcMore c (a ++ b' :: r)) : b = b' := by
  rw [crcMore_append, crcMore_append] at h
  have ha := crcMore_lt a c hc
  exact crcStep_byte ha (crcMore_inj r (crcStep_lt _ b ha) (crcStep_lt _ b' ha) h)
theorem crcSum_one (a r : List UInt8) {b b' : UInt8} (h : crcSum (a ++ b :: r) = crcSum (a ++ b' :: r)) : b = b' :=
  crcMore_one (by decide) a r (xor_cancel h)

theorem tailB_len (c : Nat) : (tailB c).length = 4 := rfl
theorem putB_len (l : List UInt8) : (putB l).length = l.length + 4 := by simp [putB, tailB_len]
theorem tailB_inj {c d : Nat} (hc : c < 4294967296) (hd : d < 4294967296) (h : tailB c = tailB d) : c = d := by
  unfold tailB at h
  simp only [List.cons.injEq, and_true] at h
  obtain ⟨h0, h1, h2, h3⟩ := h
  have e : ∀ n : Nat, n < 256 → (UInt8.ofNat n).toNat = n := fun n hn => by simp; omega
  have g0 := congrArg UInt8.toNat h0
  have g1 := congrArg UInt8.toNat h1
  have g2 := congrArg UInt8.toNat h2
  have g3 := congrArg UInt8.toNat h3
  rw [e _ (by omega), e _ (by omega)] at g0 g1 g2 g3
  omega
theorem takeS_putB (l : List UInt8) : takeS (putB l) = (l, 0) := by
  have hl := putB_len l
  unfold takeS
  rw [if_neg (by omega), hl, Nat.add_sub_cancel]
  have e1 : (putB l).take l.length = l := by simp [putB]
  have e2 : (putB l).drop l.length = tailB (crcSum l) := by simp [putB]
  rw [e1, e2, if_pos rfl]
theorem takeS_laid (l : List UInt8) (h : (takeS l).2 = 0) : 4 ≤ l.length ∧ putB (takeS l).1 = l ∧ (takeS l).1 = l.take (l.length - 4) := by
  unfold takeS at h ⊢
  split at h
  · simp at h
  · rename_i h1
    rw [if_neg h1]
    split at h
    · rename_i h2
      rw [if_pos h2]
      refine ⟨by omega, ?_, rfl⟩
      simp only [putB]
      rw [← h2, List.take_append_drop]
    · simp at h
theorem takeS_bd (l : List UInt8) : ((takeS l).2 = 2 ∧ l.length < 4 ∨ (takeS l).2 = 0 ∧ 4 ≤ l.length ∨ (takeS l).2 = 4 ∧ 4 ≤ l.length) ∧ ((takeS l).2 ≠ 0 → (takeS l).1 = []) ∧ (takeS l).1.length ≤ l.length := by
  unfold takeS
  split
  · simp; omega
  · split
    · refine ⟨.inr (.inl ⟨rfl, by omega⟩), by simp, by simp only [List.length_take]; omega⟩
    · refine ⟨.inr (.inr ⟨rfl, by omega⟩), by simp, by simp⟩
/-- a text in which one byte is another -/
theorem set_split (l : List UInt8) (k : Nat) (b : UInt8) (h : k < l.length) : l = l.take k ++ l[k] :: l.drop (k + 1) ∧ l.set k b = l.take k ++ b :: l.drop (k + 1) := by
  constructor
  · rw [← List.drop_eq_getElem_cons h, List.take_append_drop]
  · rw [List.set_eq_take_append_cons_drop, if_pos h]
theorem crcSum_set (l : List UInt8) (k : Nat) (b : UInt8) (h : k < l.length) (hb : b ≠ l[k]) : crcSum (l.set k b) ≠ crcSum l := by
  intro he
  obtain ⟨h1, h2⟩ := set_split l k b h
  rw [h2] at he
  conv at he => rhs; rw [h1]
  exact hb (crcSum_one _ _ he)
theorem takeS_spoilt (l : List UInt8) (k : Nat) (b : UInt8) (h : k < (putB l).length) (hb : b ≠ (putB l)[k]) : takeS ((putB l).set k b) = ([], 4) := by
  have hl := putB_len l
  have hp : putB l = l ++ tailB (crcSum l) := rfl
  unfold takeS
  rw [List.length_set, if_neg (by omega), hl, Nat.add_sub_cancel]
  rw [if_neg]
  by_cases hk : k < l.length
  · have e : (putB l).set k b = l.set k b ++ tailB (crcSum l) := by rw [hp, List.set_append_left _ _ hk]
    have hb' : b ≠ l[k] := by
      intro h'
      apply hb
      rw [h']
      simp [hp, List.getElem_append_left hk]
    rw [e, List.drop_left' (by simp), List.take_left' (by simp)]
    intro ht
    exact crcSum_set l k b hk hb' (tailB_inj (crcSum_lt _) (crcSum_lt _) ht).symm
  · have e : (putB l).set k b = l ++ (tailB (crcSum l)).set (k - l.length) b := by rw [hp, List.set_append_right _ _ (by omega)]
    rw [e, List.drop_left' rfl, List.take_left' rfl]
    intro ht
    apply hb
    have hk4 : k - l.length < (tailB (crcSum l)).length := by rw [tailB_len]; omega
    have h1 : ((tailB (crcSum l)).set (k - l.length) b)[k - l.length]? = some b := by rw [List.getElem?_set_self hk4]
    rw [ht, List.getElem?_eq_getElem hk4] at h1
    have h2 : (putB l)[k] = (tailB (crcSum l))[k - l.length] := by simp [hp, List.getElem_append_right (show l.length ≤ k by omega)]
    rw [h2]
    exact (Option.some.inj h1).symm
/-- a byte turned by exclusive-or -/
theorem xor_byte (b : UInt8) (n : Nat) (hn : n < 256) : (UInt8.ofNat (b.toNat ^^^ n)).toNat = b.toNat ^^^ n ∧ (UInt8.ofNat (b.toNat ^^^ n) = b ↔ n = 0) := by
  have h1 : b.toNat ^^^ n < 256 := Nat.xor_lt_two_pow (n := 8) b.toNat_lt hn
  have e : (UInt8.ofNat (b.toNat ^^^ n)).toNat = b.toNat ^^^ n := by
    generalize b.toNat ^^^ n = m at h1
    simp; omega
  refine ⟨e, ?_, ?_⟩
  · intro h
    rw [h] at e
    have : b.toNat ^^^ (b.toNat ^^^ n) = b.toNat ^^^ b.toNat := by rw [← e]
    rw [← Nat.xor_assoc, Nat.xor_self, Nat.zero_xor] at this
    exact this
  · rintro rfl
    apply UInt8.toNat_inj.1
    rw [e, Nat.xor_zero]
end Copyhold
