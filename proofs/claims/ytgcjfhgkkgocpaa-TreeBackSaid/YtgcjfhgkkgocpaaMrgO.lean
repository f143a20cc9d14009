/- Layer 7, without a program: what is taken of a text. octet.TakeNum: for every text it answers as the document says of a short number; old memory is as it was. octet.takeCount, octet.TakeText: for every text and bound they answer as the document says; old memory is as it was. node.taking's parts: a number, a count, a text: each answers as the document says, and leaves what is left in its box. -/
import Derived.Test.YtgcjfhgkkgocpaaMrgN
import Derived.Deep.QuietTactic
import Derived.BigQuiet
import Derived.Test.YtgcjfhgkkgocpaaMrgA
set_option linter.unusedVariables false
set_option linter.unusedSimpArgs false
namespace Go.Proofs.Ytgcjfhgkkgocpaa
open Go.RowKit Copyhold Copyhold.Name
theorem unfold_fold (z : Int) : unfoldN (foldN z) = z := by
  unfold unfoldN foldN
  split <;> split <;> omega
theorem fold_unfold (n : Int) (h : 0 ≤ n) : foldN (unfoldN n) = n := by
  unfold unfoldN foldN
  split <;> split <;> omega
theorem fold_bd (z : Int) (h1 : -9223372036854775808 ≤ z) (h2 : z ≤ 9223372036854775807) : 0 ≤ foldN z ∧ foldN z ≤ 18446744073709551615 := by
  unfold foldN; split <;> omega
theorem unfold_bd (n : Int) (h1 : 0 ≤ n) (h2 : n ≤ 18446744073709551615) : -9223372036854775808 ≤ unfoldN n ∧ unfoldN n ≤ 9223372036854775807 := by
  unfold unfoldN; split <;> omega
def takeWhole (s : List UInt8) : Int × List UInt8 × Int := (unfoldN ((takeNum s).1 : Int), (takeNum s).2.1, (takeNum s).2.2)
theorem takeWhole_bd (s : List UInt8) : (-9223372036854775808 ≤ (takeWhole s).1 ∧ (takeWhole s).1 ≤ 9223372036854775807) ∧ (takeWhole s).2.1.length ≤ s.length ∧ 0 ≤ (takeWhole s).2.2 ∧ (takeWhole s).2.2 ≤ 3 := by
  obtain ⟨h1, h2, h3⟩ := takeNum_bd s
  exact ⟨unfold_bd _ (by omega) (by omega), h2, h3⟩
theorem takeWhole_parses (z : Int) (h1 : -9223372036854775808 ≤ z) (h2 : z ≤ 9223372036854775807) : Parses takeWhole (wholeB z) z := by
  obtain ⟨f1, f2⟩ := fold_bd z h1 h2
  have h := takeNum_parses (foldN z).toNat (by omega)
  refine ⟨fun more => ?_, fun c hc => ?_⟩
  · unfold takeWhole wholeB
    rw [h.1, Int.toNat_of_nonneg f1, unfold_fold]
  · have := h.2 c hc
    unfold takeWhole wholeB
    simp only
    rw [this]
theorem takeWhole_laid (s : List UInt8) (h : (takeWhole s).2.2 = 0) : s = wholeB (takeWhole s).1 ++ (takeWhole s).2.1 := by
  have := takeNum_laid s h
  unfold takeWhole wholeB
  simp only
  rw [fold_unfold _ (by omega), Int.toNat_natCast]
  exact this
def takeEs : Nat → List Name.Ent → List UInt8 → List Name.Ent × List UInt8 × Int
  | 0, acc, s => (acc, s, 0)
  | m + 1, acc, s => thenP [] (takeText s 32) fun nm s => thenP [] (takeWhole s) fun k s => takeEs m (acc ++ [(nm, k)]) s
def EntT (x : Name.Ent) : Prop := x.1.length ≤ 32 ∧ -9223372036854775808 ≤ x.2 ∧ x.2 ≤ 9223372036854775807
theorem takeEs_parses : ∀ (l acc : List Name.Ent), (∀ x ∈ l, EntT x) → Parses (takeEs l.length acc) (entsP l).flatten (acc ++ l)
  | [], acc, _ => by rw [List.append_nil]; exact Parses.nil fun s => rfl
  | x :: l, acc, h => by
    obtain ⟨h1, h2, h3⟩ := h x List.mem_cons_self
    have ih := takeEs_parses l (acc ++ [x]) (fun y hy => h y (List.mem_cons_of_mem _ hy))
    have := (takeText_parses x.1 32 (by omega) (by omega)).andThen (bad := ([] : List Name.Ent)) (f := fun nm s => thenP [] (takeWhole s) fun k s => takeEs l.length (acc ++ [(nm, k)]) s)
      (((takeWhole_parses x.2 h2 h3).andThen (bad := ([] : List Name.Ent)) (f := fun k s => takeEs l.length (acc ++ [(x.1, k)]) s) ih))
    rw [List.append_assoc] at this
    refine this.same (fun s => rfl) ?_
    rw [entsP, List.flatMap_cons, List.flatten_append, ← entsP]
    simp [List.append_assoc]
theorem takeEs_laid : ∀ (m : Nat) (acc : List Name.Ent) (s : List UInt8), (takeEs m acc s).2.2 = 0 → ∃ l : List Name.Ent, l.length = m ∧ (takeEs m acc s).1 = acc ++ l ∧ s = (entsP l).flatten ++ (takeEs m acc s).2.1 ∧ ∀ x ∈ l, EntT x
  | 0, acc, s, _ => ⟨[], rfl, by simp [takeEs], by simp [takeEs, entsP], fun x hx => (by cases hx)⟩
  | m + 1, acc, s, h => by
    rw [takeEs] at h ⊢
    have h1 := thenP_zero h
    rw [thenP_ok h1] at h ⊢
    have h2 := thenP_zero h
    rw [thenP_ok h2] at h ⊢
    obtain ⟨l, e1, e2, e3, e4⟩ := takeEs_laid m _ _ h
    obtain ⟨t1, t2⟩ := takeText_laid s 32 h1
    have w1 := takeWhole_laid _ h2
    have w2 := (takeWhole_bd (takeText s 32).2.1).1
    refine ⟨((takeText s 32).1, (takeWhole (takeText s 32).2.1).1) :: l, by simp [e1], by rw [e2, List.append_assoc]; rfl, ?_, fun x hx => ?_⟩
    · rw [entsP, List.flatMap_cons, List.flatten_append, ← entsP]
      simp only [List.flatten_cons, List.flatten_nil, List.append_nil, List.append_assoc]
      rw [← e3, ← w1]
      exact t1
    · rcases List.mem_cons.1 hx with rfl | hx
      · exact ⟨by simp only; omega, w2⟩
      · exact e4 x hx
theorem takeEs_err : ∀ (m : Nat) (acc : List Name.Ent) (s : List UInt8), 0 ≤ (takeEs m acc s).2.2 ∧ (takeEs m acc s).2.2 ≤ 5 ∧ (takeEs m acc s).2.1.length ≤ s.length
  | 0, acc, s => by simp [takeEs]
  | m + 1, acc, s => by
    rw [takeEs]
    have b1 := takeText_bd s 32
    by_cases h1 : (takeText s 32).2.2 = 0
    · rw [thenP_ok h1]
      have b2 := takeWhole_bd (takeText s 32).2.1
      by_cases h2 : (takeWhole (takeText s 32).2.1).2.2 = 0
      · rw [thenP_ok h2]
        have := takeEs_err m (acc ++ [((takeText s 32).1, (takeWhole (takeText s 32).2.1).1)]) (takeWhole (takeText s 32).2.1).2.1
        omega
      · rw [thenP_no h2]
        simp only [List.length_nil]
        omega
    · rw [thenP_no h1]
      simp only [List.length_nil]
      omega
def nd0 : Nd := ⟨0, 0, 0, [], []⟩
def endN (n : Nd) (s : List UInt8) : Nd × List UInt8 × Int := if rightN n = true then (n, s, 0) else (nd0, [], 3)
def takeNode (s : List UInt8) : Nd × List UInt8 × Int :=
  thenP nd0 (takeWhole s) fun ino s => thenP nd0 (takeWhole s) fun kind s => thenP nd0 (takeWhole s) fun links s => thenP nd0 (takeText s 4096) fun text s =>
  thenP nd0 (takeCount s 256) fun m s => thenP nd0 (takeEs m [] s) fun l s => endN ⟨ino, kind, links, text, l⟩ s
theorem okN_len32 {s : List UInt8} (h : okN s = true) : s.length ≤ 32 := (okN_len h).1
theorem right_parts {n : Nd} (h : rightN n = true) (ho : OkNd n) : n.text.length ≤ 4096 ∧ n.l.length ≤ 256 ∧ (∀ x ∈ n.l, EntT x) := by
  obtain ⟨_, _, _, _, o8, _⟩ := ho
  simp only [rightN, Bool.and_eq_true, decide_eq_true_eq] at h
  have h2 := h.2
  split at h2
  · simp only [Bool.and_eq_true, beq_iff_eq] at h2
    obtain ⟨e1, e2⟩ := h2
    rw [rightE_iff] at e2
    refine ⟨by rw [e1]; simp, e2.1, fun x hx => ?_⟩
    have := e2.2.1 x hx
    simp only [okE, Bool.and_eq_true] at this
    exact ⟨okN_len32 this.1, (o8 x hx).2⟩
  · split at h2
    · simp only [Bool.and_eq_true, beq_iff_eq, decide_eq_true_eq] at h2
      rw [h2.2]
      exact ⟨h2.1, by simp, fun x hx => (by cases hx)⟩
    · cases h2
theorem takeNode_parses (n : Nd) (h : rightN n = true) (ho : OkNd n) : Parses takeNode (nodeB n) n := by
  obtain ⟨r1, r2, r3⟩ := right_parts h ho
  obtain ⟨⟨o1, o2⟩, ⟨o3, o4⟩, ⟨o5, o6⟩, o7, o8, o9⟩ := ho
  obtain ⟨ino, kind, links, text, l⟩ := n
  simp only at *
  have hend : Parses (endN ⟨ino, kind, links, text, l⟩) [] ⟨ino, kind, links, text, l⟩ := Parses.nil fun s => by unfold endN; rw [if_pos h]
  have p6 := (takeEs_parses l [] r3).andThen (bad := nd0) (f := fun l s => endN ⟨ino, kind, links, text, l⟩ s) hend
  have p5 := (takeCount_parses l.length 256 (by omega) (by omega)).andThen (bad := nd0) (f := fun m s => thenP nd0 (takeEs m [] s) fun l s => endN ⟨ino, kind, links, text, l⟩ s) p6
  have p4 := (takeText_parses text 4096 (by omega) (by omega)).andThen (bad := nd0) (f := fun text s => thenP nd0 (takeCount s 256) fun m s => thenP nd0 (takeEs m [] s) fun l s => endN ⟨ino, kind, links, text, l⟩ s) p5
  have p3 := (takeWhole_parses links o5 o6).andThen (bad := nd0) (f := fun links s => thenP nd0 (takeText s 4096) fun text s => thenP nd0 (takeCount s 256) fun m s => thenP nd0 (takeEs m [] s) fun l s => endN ⟨ino, kind, links, text, l⟩ s) p4
  have p2 := (takeWhole_parses kind o3 o4).andThen (bad := nd0) (f := fun kind s => thenP nd0 (takeWhole s) fun links s => thenP nd0 (takeText s 4096) fun text s => thenP nd0 (takeCount s 256) fun m s => thenP nd0 (takeEs m [] s) fun l s => endN ⟨ino, kind, links, text, l⟩ s) p3
  have p1 := (takeWhole_parses ino o1 o2).andThen (bad := nd0) (f := fun ino s => thenP nd0 (takeWhole s) fun kind s => thenP nd0 (takeWhole s) fun links s => thenP nd0 (takeText s 4096) fun text s => thenP nd0 (takeCount s 256) fun m s => thenP nd0 (takeEs m [] s) fun l s => endN ⟨ino, kind, links, text, l⟩ s) p2
  refine p1.same (fun s => rfl) ?_
  unfold nodeB nodeP headP
  simp [List.append_assoc]
theorem takeNode_laid (s : List UInt8) (h : (takeNode s).2.2 = 0) : s = nodeB (takeNode s).1 ++ (takeNode s).2.1 ∧ rightN (takeNode s).1 = true ∧ (takeNode s).1.l.length ≤ 256 ∧ (∀ x ∈ (takeNode s).1.l, EntT x) ∧ (takeNode s).1.text.length ≤ 4096 := by
  unfold takeNode at h ⊢
  have h1 := thenP_zero h
  rw [thenP_ok h1] at h ⊢
  have h2 := thenP_zero h
  rw [thenP_ok h2] at h ⊢
  have h3 := thenP_zero h
  rw [thenP_ok h3] at h ⊢
  have h4 := thenP_zero h
  rw [thenP_ok h4] at h ⊢
  have h5 := thenP_zero h
  rw [thenP_ok h5] at h ⊢
  have h6 := thenP_zero h
  rw [thenP_ok h6] at h ⊢
  have e1 := takeWhole_laid _ h1
  have e2 := takeWhole_laid _ h2
  have e3 := takeWhole_laid _ h3
  have e4 := takeText_laid _ _ h4
  have e5 := takeCount_laid _ _ h5
  obtain ⟨l, k1, k2, k3, k4⟩ := takeEs_laid _ _ _ h6
  rw [List.nil_append] at k2
  unfold endN at h ⊢
  split at h
  · rename_i hr
    rw [if_pos hr]
    simp only
    refine ⟨?_, hr, ?_, ?_, ?_⟩
    · unfold nodeB nodeP headP
      simp only [List.flatten_append, List.flatten_cons, List.flatten_nil, List.append_nil, List.append_assoc]
      rw [k2, k1, ← k3, ← e5.1, ← e4.1, ← e3, ← e2]
      exact e1
    · rw [k2, k1]; have := e5.2.1; omega
    · rw [k2]; exact k4
    · have := e4.2; omega
  · cases h
theorem takeNode_bd (s : List UInt8) : 0 ≤ (takeNode s).2.2 ∧ (takeNode s).2.2 ≤ 5 ∧ (takeNode s).2.1.length ≤ s.length := by
  unfold takeNode
  have b1 := takeWhole_bd s
  by_cases h1 : (takeWhole s).2.2 = 0
  · rw [thenP_ok h1]
    generalize (takeWhole s).2.1 = s1 at *
    have b2 := takeWhole_bd s1
    by_cases h2 : (takeWhole s1).2.2 = 0
    · rw [thenP_ok h2]
      generalize (takeWhole s1).2.1 = s2 at *
      have b3 := takeWhole_bd s2
      by_cases h3 : (takeWhole s2).2.2 = 0
      · rw [thenP_ok h3]
        generalize (takeWhole s2).2.1 = s3 at *
        have b4 := takeText_bd s3 4096
        by_cases h4 : (takeText s3 4096).2.2 = 0
        · rw [thenP_ok h4]
          generalize (takeText s3 4096).2.1 = s4 at *
          have b5 := takeCount_bd s4 256
          by_cases h5 : (takeCount s4 256).2.2 = 0
          · rw [thenP_ok h5]
            generalize (takeCount s4 256).2.1 = s5 at *
            have b6 := takeEs_err (takeCount s4 256).1 [] s5
            by_cases h6 : (takeEs (takeCount s4 256).1 [] s5).2.2 = 0
            · rw [thenP_ok h6]
              unfold endN
              split
              · simp only; omega
              · simp
            · rw [thenP_no h6]; simp only [List.length_nil]; omega
          · rw [thenP_no h5]; simp only [List.length_nil]; omega
        · rw [thenP_no h4]; simp only [List.length_nil]; omega
      · rw [thenP_no h3]; simp only [List.length_nil]; omega
    · rw [thenP_no h2]; simp only [List.length_nil]; omega
  · rw [thenP_no h1]; simp only [List.length_nil]; omega
theorem thenP_bad {α β : Type} {bad : β} {r : α × List UInt8 × Int} {f : α → List UInt8 → β × List UInt8 × Int} (hf : ∀ a s, (f a s).2.2 ≠ 0 → (f a s).1 = bad) (h : (thenP bad r f).2.2 ≠ 0) : (thenP bad r f).1 = bad := by
  unfold thenP at h ⊢
  split
  · rename_i h0
    rw [if_pos h0] at h
    exact hf _ _ h
  · rfl
theorem takeNode_ok (s : List UInt8) : OkNd (takeNode s).1 := by
  have hz : OkNd nd0 := ⟨⟨by decide, by decide⟩, ⟨by decide, by decide⟩, ⟨by decide, by decide⟩, by simp [nd0], fun x hx => (by cases hx), by simp [nd0]⟩
  by_cases h : (takeNode s).2.2 = 0
  · obtain ⟨_, _, h3, h4, h5⟩ := takeNode_laid s h
    unfold takeNode at h h3 h4 h5 ⊢
    have h1 := thenP_zero h
    rw [thenP_ok h1] at h h3 h4 h5 ⊢
    have h2 := thenP_zero h
    rw [thenP_ok h2] at h h3 h4 h5 ⊢
    have h6 := thenP_zero h
    rw [thenP_ok h6] at h h3 h4 h5 ⊢
    have h7 := thenP_zero h
    rw [thenP_ok h7] at h h3 h4 h5 ⊢
    have h8 := thenP_zero h
    rw [thenP_ok h8] at h h3 h4 h5 ⊢
    have h9 := thenP_zero h
    rw [thenP_ok h9] at h h3 h4 h5 ⊢
    unfold endN at h h3 h4 h5 ⊢
    split at h
    · rename_i hr
      rw [if_pos hr] at h3 h4 h5 ⊢
      simp only at h3 h4 h5
      exact ⟨(takeWhole_bd _).1, (takeWhole_bd _).1, (takeWhole_bd _).1, by simp only; omega, fun x hx => ⟨by have := (h4 x hx).1; omega, (h4 x hx).2⟩, by simp only; omega⟩
    · cases h
  · have : (takeNode s).1 = nd0 := by
      refine thenP_bad (fun _ _ => thenP_bad (fun _ _ => thenP_bad (fun _ _ => thenP_bad (fun _ _ => thenP_bad (fun _ _ => thenP_bad (fun _ _ hh => ?_)))))) h
      unfold endN at hh ⊢
      split
      · rename_i hr
        rw [if_pos hr] at hh
        exact absurd rfl hh
      · rfl
    rw [this]
    exact hz
end Go.Proofs.Ytgcjfhgkkgocpaa

namespace Go.Proofs.Ytgcjfhgkkgocpaa
open Go.RowKit Copyhold
def boxes (w : World) (l : List UInt8) (k : Int) : World := (w.alloc (.cells #[.string ⟨l.toArray⟩] 9)).alloc (.cells #[.int .i64 k] 3)
theorem next_yes (w : World) (l : List UInt8) (k : Nat) (hk : k < l.length) (_hl : l.length ≤ 140737488355328) :
    Calls Try.prog 44 #[.pointer (some ⟨w.heap.size + 1, 0, none⟩), .pointer (some ⟨w.heap.size, 0, none⟩)] (boxes w l k) fun e w' => e = .returned (.tuple #[.int .u8 (l[k].toNat), .bool true]) ∧ boxes w l (k + 1) = w' := by
  unfold boxes
  go_enter Try.func44, Try.ntmps44
  go_wp2
  go_ret2
  exact ⟨rfl, rfl⟩
theorem next_no (w : World) (l : List UInt8) (k : Nat) (hk : l.length ≤ k) (_hl : k ≤ 140737488355328) :
    Calls Try.prog 44 #[.pointer (some ⟨w.heap.size + 1, 0, none⟩), .pointer (some ⟨w.heap.size, 0, none⟩)] (boxes w l k) fun e w' => e = .returned (.tuple #[.int .u8 0, .bool false]) ∧ boxes w l k = w' := by
  unfold boxes
  go_enter Try.func44, Try.ntmps44
  go_wp2
  go_ret2
  exact ⟨rfl, rfl⟩
def TnRel (l : List UInt8) (k : Nat) (z : Int) : Prop :=
  0 ≤ z ∧ z < 2 ^ (7 * k) ∧ k ≤ l.length ∧ tnGo k z.toNat (l.drop k) = takeNum l
def tnStep (z : Int) (b k : Nat) : Int := bits BinOp.or IntKind.u64 z (IntKind.u64.wrap (IntKind.u64.wrap (bits BinOp.and IntKind.u8 (↑b) 127) * 2 ^ (7 * k)))
theorem pow_split (k : Nat) (h : k ≤ 8) : 2 ^ (7 * k) ≤ 72057594037927936 := by
  have : 2 ^ (7 * k) ≤ 2 ^ 56 := Nat.pow_le_pow_right (by decide) (by omega)
  simpa using this
theorem pow128 (k : Nat) : 128 ^ k = 2 ^ (7 * k) := by rw [Nat.pow_mul]
theorem tnStep_exact (z : Int) (b k : Nat) (hz0 : 0 ≤ z) (hz : z < 2 ^ (7 * k)) (hb : b < 256) (hk : k ≤ 8 ∨ k = 9 ∧ b ≤ 1) :
    tnStep z b k = ((z.toNat + (b % 128) * 128 ^ k : Nat) : Int) := by
  have hand : bits BinOp.and IntKind.u8 (↑b) 127 = ((b % 128 : Nat) : Int) := by
    rw [u8_and _ _ (by omega) (by omega) (by omega) (by omega)]
    congr 1
    rw [show (127 : Int).toNat = 127 from rfl, Int.toNat_natCast]
    exact Nat.and_two_pow_sub_one_eq_mod b 7
  obtain ⟨y, rfl⟩ := Int.eq_ofNat_of_zero_le hz0
  have hy : y < 2 ^ (7 * k) := by
    have : ((2 ^ (7 * k) : Nat) : Int) = (2 : Int) ^ (7 * k) := by simp
    omega
  have hm : b % 128 < 128 := Nat.mod_lt _ (by decide)
  have hprod : (b % 128) * 2 ^ (7 * k) < 18446744073709551616 ∧ y < 18446744073709551616 := by
    rcases hk with hk | ⟨rfl, hb1⟩
    · have h8 := pow_split k hk
      have : (b % 128) * 2 ^ (7 * k) ≤ 127 * 72057594037927936 := Nat.mul_le_mul (by omega) h8
      omega
    · have e : (2 : Nat) ^ (7 * 9) = 9223372036854775808 := by decide
      rw [e] at hy ⊢
      have : b % 128 ≤ 1 := by omega
      have : (b % 128) * 9223372036854775808 ≤ 1 * 9223372036854775808 := Nat.mul_le_mul_right _ this
      omega
  have hw : ∀ n : Nat, n < 18446744073709551616 → IntKind.u64.wrap (n : Int) = (n : Int) := by
    intro n hn
    simp only [IntKind.wrap, IntKind.bits, IntKind.signed]
    have e : (n : Int) % 18446744073709551616 = n := by omega
    simpa using e
  unfold tnStep
  rw [hand, hw _ (by omega)]
  have e2 : (((b % 128 : Nat) : Int) * 2 ^ (7 * k)) = (((b % 128) * 2 ^ (7 * k) : Nat) : Int) := by simp
  rw [e2, hw _ hprod.1, u64_or_nat _ _ hprod.2 hprod.1]
  congr 1
  rw [Int.toNat_natCast, pow128, Nat.or_comm, nat_join (7 * k) _ _ (Nat.mul_mod_left _ _) hy, Nat.add_comm]
theorem tnGo_ten (acc : Nat) (l : List UInt8) : tnGo 10 acc l = (0, [], 3) := by cases l <;> simp [tnGo]
theorem drop_cons (l : List UInt8) (k : Nat) (h : k < l.length) : l.drop k = l[k] :: l.drop (k + 1) := List.drop_eq_getElem_cons h
theorem tn_on (l : List UInt8) (k : Nat) (z : Int) (hk : k < 10) (h : k < l.length) (hb : ¬ l[k].toNat < 128) (hz0 : 0 ≤ z) (hz : z < 2 ^ (7 * k)) (hg : tnGo k z.toNat (l.drop k) = takeNum l) :
    TnRel l (k + 1) (tnStep z l[k].toNat k) ∨ k = 9 := by
  have hbb : l[k].toNat < 256 := l[k].toNat_lt
  by_cases h9 : k = 9
  · exact .inr h9
  left
  rw [drop_cons l k h, tnGo, if_pos hk, if_neg hb] at hg
  rw [tnStep_exact z _ k hz0 hz hbb (.inl (by omega))]
  have hm : l[k].toNat % 128 < 128 := Nat.mod_lt _ (by decide)
  refine ⟨by omega, ?_, by omega, by rw [Int.toNat_natCast]; exact hg⟩
  obtain ⟨y, rfl⟩ := Int.eq_ofNat_of_zero_le hz0
  have hy : y < 2 ^ (7 * k) := by
    have : ((2 ^ (7 * k) : Nat) : Int) = (2 : Int) ^ (7 * k) := by simp
    omega
  rw [Int.toNat_natCast, pow128]
  have e : (2 : Nat) ^ (7 * (k + 1)) = 128 * 2 ^ (7 * k) := by rw [show 7 * (k + 1) = 7 + 7 * k from by omega, Nat.pow_add]
  have hp : (l[k].toNat % 128) * 2 ^ (7 * k) ≤ 127 * 2 ^ (7 * k) := Nat.mul_le_mul_right _ (by omega)
  have : ((y + (l[k].toNat % 128) * 2 ^ (7 * k) : Nat) : Int) < ((2 ^ (7 * (k + 1)) : Nat) : Int) := by
    rw [e]; omega
  simpa using this
def TnEnd (l : List UInt8) (k b : Nat) (z : Int) : Prop :=
  k < 10 ∧ k < l.length ∧ b < 128 ∧ (if k = 9 ∧ 1 < b ∨ 0 < k ∧ b = 0 then takeNum l = (0, [], 3) else 0 ≤ z ∧ takeNum l = (z.toNat, l.drop (k + 1), 0))
theorem tn_end (l : List UInt8) (k : Nat) (z : Int) (hk : k < 10) (h : k < l.length) (hb : l[k].toNat < 128) (hz0 : 0 ≤ z) (hz : z < 2 ^ (7 * k)) (hg : tnGo k z.toNat (l.drop k) = takeNum l) :
    TnEnd l k l[k].toNat (tnStep z l[k].toNat k) := by
  refine ⟨hk, h, hb, ?_⟩
  rw [drop_cons l k h, tnGo, if_pos hk, if_pos hb] at hg
  split
  · rename_i hc
    rw [if_pos hc] at hg
    exact hg.symm
  · rename_i hc
    rw [if_neg hc] at hg
    rw [tnStep_exact z _ k hz0 hz (by omega) (by omega), Int.toNat_natCast, Nat.mod_eq_of_lt hb]
    exact ⟨by omega, hg.symm⟩
theorem tn_more (l : List UInt8) (k : Nat) (z : Int) (hk : k < 10) (h : l.length ≤ k) (hg : tnGo k z.toNat (l.drop k) = takeNum l) : takeNum l = (0, [], 2) := by
  rw [List.drop_eq_nil_of_le h, tnGo, if_pos hk] at hg
  exact hg.symm
def TnJump (w : World) (l : List UInt8) (a : Act) (w' : World) : Prop :=
  ∃ (k b : Nat) (z : Int) (u2 u3 u4 u6 u9 u10 u11 u12 u13 u14 u15 u16 u17 u18 u19 u20 u21 u22 u23 u24 u25 u26 u27 u28 u29 u30 u31 u32 u33 u34 : Value), w' = boxes w l (k + 1) ∧ TnEnd l k b z ∧
    a = { tmps := #[.string ⟨l.toArray⟩, .pointer (some ⟨w.heap.size, 0, none⟩), u2, u3, u4, .pointer (some ⟨w.heap.size + 1, 0, none⟩), u6, .int .u64 z, .int .u8 b, u9, u10, u11, u12, u13, u14, u15, u16, u17, u18, u19, u20, u21, u22, u23, u24, u25, u26, u27, u28, u29, u30, u31, u32, u33, u34, undef, undef, undef, undef, undef, undef, undef, undef, undef, undef, undef, undef, undef, undef, undef, undef, undef, undef], defers := [] }
theorem below_boxes (w : World) (l : List UInt8) (k : Int) : Below w.heap.size w (boxes w l k) := ((Below.refl _ _).alloc (Nat.le_refl _) _).alloc (by simp) _
set_option maxRecDepth 100000 in
set_option maxHeartbeats 1000000 in
theorem octet_TakeNum (l : List UInt8) (w : World) (hl : l.length ≤ 140737488355328) :
    Calls Try.prog 27 #[.string ⟨l.toArray⟩] w fun e w' => e = .returned (.tuple #[.int .u64 (takeNum l).1, .string ⟨(takeNum l).2.1.toArray⟩, .int .i64 (takeNum l).2.2]) ∧ Below w.heap.size w w' := by
  go_enter Try.func27, Try.ntmps27
  go_wp2_with fail
  refine wp_scope_jumps 0 (TnJump w l) (fun _ _ => 0) rfl ?_ ?_
  · go_wp2_with fail
    have e0 : (w.alloc (.cells #[.string ⟨l.toArray⟩] 9)).alloc (.cells #[.int .i64 0] 3) = boxes w l ((0 : Nat) : Int) := rfl
    rw [e0]
    clear e0
    go_loopw [7, 13] (fun n i wr => ∃ (k : Nat) (z : Int), k ≤ 10 ∧ i = .int .i64 k ∧ n = .int .u64 z ∧ wr = boxes w l k ∧ (k = 10 ∧ takeNum l = (0, [], 3) ∨ k < 10 ∧ TnRel l k z)) (fun _ i _ => 10 - (intOf i).toNat)
    case atStart => exact ⟨0, 0, Nat.zero_le _, rfl, rfl, rfl, .inr ⟨by decide, Int.le_refl _, by decide, Nat.zero_le _, rfl⟩⟩
    case round =>
      obtain ⟨k, z, hk, rfl, rfl, rfl, hgo⟩ := hrel
      rcases hgo with ⟨rfl, hg⟩ | ⟨hlt, hz0, hz1, hkl, hgo⟩
      · have HG := Lib.hid hg; clear hg
        go_wp2_with fail
        simp only [Exit.jump]
        go_ret3
        exact ⟨by rw [HG.out]; rfl, below_boxes _ _ _⟩
      have HG := Lib.hid hgo; clear hgo
      have HZ := Lib.hid hz1; clear hz1
      by_cases hin : k < l.length
      · go_wp2_with fail
        refine (next_yes w l k hin hl).mono ?_
        rintro e w' ⟨rfl, rfl⟩
        have hbb : l[k].toNat < 256 := l[k].toNat_lt
        by_cases hb : l[k].toNat < 128
        · have HE := Lib.hid (tn_end l k z hlt hin hb hz0 HZ.out HG.out)
          generalize l[k].toNat = b at *
          go_wp2_with fail
          go_step3
          refine ⟨rfl, k, b, _, _, _, _, _, _, _, _, _, _, _, _, _, _, _, _, _, _, _, _, _, _, _, _, _, _, _, _, _, _, _, rfl, HE.out, rfl⟩
        · have HE := Lib.hid (tn_on l k z hlt hin hb hz0 HZ.out HG.out)
          have HE9 : Hid (k = 9 → takeNum l = (0, [], 3)) := by
            rintro rfl
            have hg := HG.out
            rw [drop_cons l 9 hin, tnGo, if_pos hlt, if_neg hb, tnGo_ten] at hg
            exact hg.symm
          generalize l[k].toNat = b at *
          go_wp2_with fail
          refine ⟨⟨k + 1, tnStep z b k, by omega, by go_num, rfl, by go_num, ?_⟩, by simp [intOf]; omega⟩
          rcases HE.out with h | h
          · by_cases h9 : k = 9
            · exact .inl ⟨by omega, HE9.out h9⟩
            · exact .inr ⟨by omega, h⟩
          · exact .inl ⟨by omega, HE9.out h⟩
      · have HM := Lib.hid (tn_more l k z hlt (by omega) HG.out)
        go_wp2_with fail
        refine (next_no w l k (by omega) (by omega)).mono ?_
        rintro e w' ⟨rfl, rfl⟩
        go_wp2_with fail
        simp only [Exit.jump]
        go_ret3
        exact ⟨by rw [HM.out]; rfl, below_boxes _ _ _⟩
  · rintro a' w' ⟨k, b, z, u2, u3, u4, u6, u9, u10, u11, u12, u13, u14, u15, u16, u17, u18, u19, u20, u21, u22, u23, u24, u25, u26, u27, u28, u29, u30, u31, u32, u33, u34, rfl, hend, rfl⟩
    obtain ⟨hk, hkl, hb, hif⟩ := hend
    by_cases hc : k = 9 ∧ 1 < b ∨ 0 < k ∧ b = 0
    · rw [if_pos hc] at hif
      have HI := Lib.hid hif; clear hif
      unfold boxes
      rcases (show k = 9 ∧ 1 < b ∨ k = 9 ∧ b = 0 ∨ 0 < k ∧ k < 9 ∧ b = 0 from by omega) with ⟨rfl, h⟩ | ⟨rfl, rfl⟩ | ⟨h1, h2, rfl⟩
      all_goals
        clear hc
        go_wp2_with fail
        simp only [Exit.jump]
        go_ret3
        exact ⟨by rw [HI.out]; rfl, below_boxes w l _⟩
    · rw [if_neg hc] at hif
      obtain ⟨hz0, hif⟩ := hif
      have HI := Lib.hid hif; clear hif
      unfold boxes
      rcases (show k = 9 ∧ b = 1 ∨ k = 0 ∨ 0 < k ∧ k < 9 ∧ 0 < b from by omega) with ⟨rfl, rfl⟩ | rfl | ⟨h1, h2, h3⟩
      all_goals
        clear hc
        go_wp2_with fail
        go_quiet (fail)
        go_wp2_with fail
        simp only [Exit.jump]
        go_ret3
        refine ⟨?_, ?_⟩
        · rw [HI.out]
          exact ret3 (int_toNat hz0) (congrArg Value.string (piece_end l _)) rfl
        · exact below_drewN (below_boxes w l _) _
end Go.Proofs.Ytgcjfhgkkgocpaa

namespace Go.Proofs.Ytgcjfhgkkgocpaa
open Go.RowKit Copyhold
set_option maxHeartbeats 1000000 in
theorem octet_takeCount (l : List UInt8) (most : Int) (w : World) (hl : l.length ≤ 140737488355328) (hm1 : -9223372036854775808 ≤ most) (hm2 : most ≤ 9223372036854775807) :
    Calls Try.prog 70 #[.string ⟨l.toArray⟩, .int .i64 most] w fun e w' => e = .returned (.tuple #[.int .u64 (takeCount l most).1, .string ⟨(takeCount l most).2.1.toArray⟩, .int .i64 (takeCount l most).2.2]) ∧ Below w.heap.size w w' := by
  have hbd := takeNum_bd l
  obtain ⟨n, hn⟩ : ∃ n : Int, n = ((takeNum l).1 : Int) := ⟨_, rfl⟩
  have hn0 : 0 ≤ n := by omega
  have hn1 : n ≤ 18446744073709551615 := by omega
  have HT := Lib.hid (show takeCount l most = if (takeNum l).2.2 ≠ 0 then (0, [], (takeNum l).2.2) else if most < 0 ∨ most < n then (0, [], 5) else takeNum l from by rw [hn]; rfl)
  clear hbd
  have HN := Lib.hid hn; clear hn
  go_enter Try.func70, Try.ntmps70
  go_wp2_with fail
  refine (octet_TakeNum l _ hl).mono ?_
  rintro e w1 ⟨rfl, hb1⟩
  rw [← HN.out]
  by_cases he : (takeNum l).2.2 = 0
  · rw [he]
    by_cases hc : most < 0 ∨ most < n
    · have hfin : takeCount l most = (0, [], 5) := by rw [HT.out, if_neg (by simp [he]), if_pos hc]
      have HF := Lib.hid hfin; clear hfin he
      rcases (show most < 0 ∨ 0 ≤ most ∧ most < n from by omega) with h | ⟨h, h'⟩
      all_goals
        clear hc
        go_wp2_with fail
        go_ret3
        exact ⟨by rw [HF.out]; rfl, hb1⟩
    · have hfin : takeCount l most = takeNum l := by rw [HT.out, if_neg (by simp [he]), if_neg hc]
      have h1 : 0 ≤ most := by omega
      have h2 : n ≤ most := by omega
      have HF := Lib.hid hfin; clear hfin hc
      have HE := Lib.hid he; clear he
      go_wp2_with fail
      go_ret3
      exact ⟨by rw [HF.out, HE.out]; exact ret3 (congrArg _ HN.out) rfl rfl, hb1⟩
  · have hfin : takeCount l most = (0, [], (takeNum l).2.2) := by rw [HT.out, if_pos he]
    have HF := Lib.hid hfin; clear hfin
    have hne : ((takeNum l).2.2 == 0) = false := by simpa using he
    have hne2 : ((takeNum l).2.2 != 0) = true := by simpa using he
    clear he
    go_wp2_with fail
    go_ret3
    exact ⟨by rw [HF.out]; rfl, hb1⟩
set_option maxHeartbeats 1000000 in
theorem octet_TakeText (l : List UInt8) (most : Int) (w : World) (hl : l.length ≤ 140737488355328) (hm1 : -9223372036854775808 ≤ most) (hm2 : most ≤ 9223372036854775807) :
    Calls Try.prog 63 #[.string ⟨l.toArray⟩, .int .i64 most] w fun e w' => e = .returned (.tuple #[.string ⟨(takeText l most).1.toArray⟩, .string ⟨(takeText l most).2.1.toArray⟩, .int .i64 (takeText l most).2.2]) ∧ Below w.heap.size w w' := by
  have hbd := takeCount_bd l most
  have HT := Lib.hid (show takeText l most = if (takeCount l most).2.2 ≠ 0 then ([], [], (takeCount l most).2.2)
  else if (takeCount l most).2.1.length < (takeCount l most).1 then ([], [], 2)
  else ((takeCount l most).2.1.take (takeCount l most).1, (takeCount l most).2.1.drop (takeCount l most).1, 0) from rfl)
  have hr : (takeCount l most).2.1.length ≤ 140737488355328 := by omega
  obtain ⟨hn1, _⟩ := hbd
  have HN := Lib.hid hn1; clear hn1
  go_enter Try.func63, Try.ntmps63
  go_wp2_with fail
  refine (octet_takeCount l most _ hl hm1 hm2).mono ?_
  rintro e w1 ⟨rfl, hb1⟩
  generalize hx : takeCount l most = x at *
  clear hx
  obtain ⟨n, r, e⟩ := x
  simp only at hr HN HT ⊢
  by_cases he : e = 0
  · subst he
    by_cases hc : r.length < n
    · have hfin : takeText l most = ([], [], 2) := by rw [HT.out, if_neg (by simp), if_pos hc]
      have HF := Lib.hid hfin; clear hfin
      have hc' : (r.length : Int) < (n : Int) := by omega
      clear hc
      obtain ⟨z, hz⟩ : ∃ z : Int, z = (n : Int) := ⟨_, rfl⟩
      rw [← hz] at hc' ⊢
      have hz1 : z ≤ 18446744073709551615 := by have := HN.out; omega
      clear hz HT HN
      go_wp2_with fail
      go_ret3
      exact ⟨by rw [HF.out]; rfl, hb1⟩
    · have hfin : takeText l most = (r.take n, r.drop n, 0) := by rw [HT.out, if_neg (by simp), if_neg hc]
      have HF := Lib.hid hfin; clear hfin
      have hc' : n ≤ r.length := by omega
      clear hc HT HN
      go_wp2_with fail
      go_quiet (fail)
      go_wp2_with fail
      go_ret3
      refine ⟨?_, ?_⟩
      · rw [HF.out]
        exact ret3 (congrArg Value.string (piece r 0 n)) (congrArg Value.string (piece_end r n)) rfl
      · exact below_drewN hb1 _
  · have hfin : takeText l most = ([], [], e) := by rw [HT.out, if_pos he]
    have HF := Lib.hid hfin; clear hfin
    have hne : (e == 0) = false := by simpa using he
    have hne2 : (e != 0) = true := by simpa using he
    clear he HT HN
    go_wp2_with fail
    go_ret3
    exact ⟨by rw [HF.out]; rfl, hb1⟩
end Go.Proofs.Ytgcjfhgkkgocpaa

set_option linter.unusedVariables false
namespace Go.Proofs.Ytgcjfhgkkgocpaa
open Go.RowKit Copyhold Copyhold.Name
set_option maxHeartbeats 2000000 in
theorem taking_number (l : List UInt8) (B : Nat) (w : World) (hb : BoxT w B l 0) (hl : l.length ≤ 140737488355328) :
    Calls Try.prog 45 #[.pointer (some ⟨B, 0, none⟩)] w fun e w' => e = .returned (.int .i64 (takeWhole l).1) ∧ TakeW w B (takeWhole l).2.1 (takeWhole l).2.2 w' := by
  obtain ⟨c0, c1, f0, f1⟩ := hb
  have hB := cell_lt c0
  have hbd := takeNum_bd l
  have HT := Lib.hid (octet_TakeNum l w hl)
  have HD : Hid (takeWhole l = (unfoldN ((takeNum l).1 : Int), (takeNum l).2.1, (takeNum l).2.2)) := Lib.hid rfl
  generalize takeNum l = x at *
  obtain ⟨n, r, e⟩ := x
  simp only at HT HD hbd
  have HU := Lib.hid (fun W => octet_Unfold (n : Int) W (by omega) (by omega))
  have HBD := Lib.hid hbd
  clear hbd
  go_enter Try.func45, Try.ntmps45
  go_wp2_with fail
  refine HT.out.mono ?_
  rintro e w1 ⟨rfl, hb1⟩
  have d0 := cell_keep hb1 c0
  have d1 := cell_keep hb1 c1
  have g0 := ((bcell hb1).2 B 0 hB).trans f0
  have g1 := ((bcell hb1).2 B 1 hB).trans f1
  have HB1 := Lib.hid hb1
  clear hb1 c0 c1 f0 f1
  go_wp2_with fail
  refine (HU.out _).mono ?_
  rintro e w2 ⟨rfl, rfl⟩
  go_wp2_with fail
  go_ret
  exact ⟨by rw [HD.out]; rfl, _, HB1.out, by rw [HD.out]⟩
set_option maxHeartbeats 2000000 in
theorem taking_number_no (l : List UInt8) (err : Int) (B : Nat) (w : World) (hb : BoxT w B l err) (he : err ≠ 0) :
    Calls Try.prog 45 #[.pointer (some ⟨B, 0, none⟩)] w fun e w' => e = .returned (.int .i64 0) ∧ w = w' := by
  obtain ⟨c0, c1, f0, f1⟩ := hb
  have hB := cell_lt c0
  have hne : (err == 0) = false := by simpa using he
  clear he
  go_enter Try.func45, Try.ntmps45
  go_wp2_with fail
  go_ret
  exact ⟨rfl, rfl⟩
set_option maxHeartbeats 2000000 in
theorem taking_text (l : List UInt8) (most : Int) (B : Nat) (w : World) (hb : BoxT w B l 0) (hl : l.length ≤ 140737488355328) (m1 : -9223372036854775808 ≤ most) (m2 : most ≤ 9223372036854775807) :
    Calls Try.prog 46 #[.pointer (some ⟨B, 0, none⟩), .int .i64 most] w fun e w' => e = .returned (.string ⟨(takeText l most).1.toArray⟩) ∧ TakeW w B (takeText l most).2.1 (takeText l most).2.2 w' := by
  obtain ⟨c0, c1, f0, f1⟩ := hb
  have hB := cell_lt c0
  have HT := Lib.hid (octet_TakeText l most w hl m1 m2)
  generalize takeText l most = x at *
  obtain ⟨n, r, e⟩ := x
  simp only at HT
  go_enter Try.func46, Try.ntmps46
  go_wp2_with fail
  refine HT.out.mono ?_
  rintro e w1 ⟨rfl, hb1⟩
  have d0 := cell_keep hb1 c0
  have d1 := cell_keep hb1 c1
  have g0 := ((bcell hb1).2 B 0 hB).trans f0
  have g1 := ((bcell hb1).2 B 1 hB).trans f1
  have HB1 := Lib.hid hb1
  clear hb1 c0 c1 f0 f1
  go_wp2_with fail
  go_ret
  exact ⟨rfl, _, HB1.out, rfl⟩
set_option maxHeartbeats 2000000 in
theorem taking_text_no (l : List UInt8) (most err : Int) (B : Nat) (w : World) (hb : BoxT w B l err) (he : err ≠ 0) :
    Calls Try.prog 46 #[.pointer (some ⟨B, 0, none⟩), .int .i64 most] w fun e w' => e = .returned (.string ⟨#[]⟩) ∧ w = w' := by
  obtain ⟨c0, c1, f0, f1⟩ := hb
  have hB := cell_lt c0
  have hne : (err == 0) = false := by simpa using he
  clear he
  go_enter Try.func46, Try.ntmps46
  go_wp2_with fail
  go_ret
  exact ⟨rfl, rfl⟩
def countOf (l : List UInt8) (most : Int) : Int := if (takeNum l).2.2 ≠ 0 then 0 else if most < ((takeNum l).1 : Int) then 0 else ((takeNum l).1 : Int)
def countErr (l : List UInt8) (most : Int) : Int := if (takeNum l).2.2 ≠ 0 then (takeNum l).2.2 else if most < ((takeNum l).1 : Int) then 5 else 0
theorem takeNum_bad (l : List UInt8) (h : (takeNum l).2.2 ≠ 0) : (takeNum l).1 = 0 := by
  have : ∀ (l : List UInt8) (k acc : Nat), (tnGo k acc l).2.2 ≠ 0 → (tnGo k acc l).1 = 0 := by
    intro l
    induction l with
    | nil => intro k acc h; rw [tnGo] at h ⊢; split <;> rfl
    | cons b r ih =>
      intro k acc h
      rw [tnGo] at h ⊢
      split
      · rename_i h1
        rw [if_pos h1] at h
        split
        · rename_i h2
          rw [if_pos h2] at h
          split
          · rfl
          · rename_i h3
            rw [if_neg h3] at h
            exact absurd rfl h
        · rename_i h2
          rw [if_neg h2] at h
          exact ih _ _ h
      · rfl
  exact this l 0 0 h
theorem takeCount_of (l : List UInt8) (most : Int) (h0 : 0 ≤ most) : (takeCount l most).2.2 = countErr l most ∧ (countErr l most = 0 → takeCount l most = takeNum l ∧ countOf l most = ((takeCount l most).1 : Int)) ∧ (countErr l most ≠ 0 → countOf l most = 0) := by
  unfold takeCount countErr countOf
  by_cases h1 : (takeNum l).2.2 ≠ 0
  · rw [if_pos h1, if_pos h1, if_pos h1]
    exact ⟨rfl, fun h => absurd h h1, fun _ => rfl⟩
  · rw [if_neg h1, if_neg h1, if_neg h1]
    by_cases h2 : most < ((takeNum l).1 : Int)
    · rw [if_pos (.inr h2), if_pos h2, if_pos h2]
      exact ⟨rfl, fun h => (by cases h), fun _ => rfl⟩
    · rw [if_neg (by omega), if_neg h2, if_neg h2]
      exact ⟨by omega, fun _ => ⟨rfl, rfl⟩, fun h => absurd rfl h⟩
set_option maxHeartbeats 2000000 in
theorem taking_count (l : List UInt8) (most : Int) (B : Nat) (w : World) (hb : BoxT w B l 0) (hl : l.length ≤ 140737488355328) (m1 : 0 ≤ most) (m2 : most ≤ 9223372036854775807) :
    Calls Try.prog 47 #[.pointer (some ⟨B, 0, none⟩), .int .u64 most] w fun e w' => e = .returned (.int .u64 (countOf l most)) ∧ TakeW w B (takeNum l).2.1 (countErr l most) w' := by
  obtain ⟨c0, c1, f0, f1⟩ := hb
  have hB := cell_lt c0
  have hbd := takeNum_bd l
  have HT := Lib.hid (octet_TakeNum l w hl)
  have HD : Hid (countOf l most = if (takeNum l).2.2 ≠ 0 then 0 else if most < ((takeNum l).1 : Int) then 0 else ((takeNum l).1 : Int)) := Lib.hid rfl
  have HE : Hid (countErr l most = if (takeNum l).2.2 ≠ 0 then (takeNum l).2.2 else if most < ((takeNum l).1 : Int) then 5 else 0) := Lib.hid rfl
  have HZ := Lib.hid (takeNum_bad l)
  generalize takeNum l = x at *
  obtain ⟨n, r, e⟩ := x
  simp only at HT HD HE HZ hbd ⊢
  obtain ⟨z, hz⟩ : ∃ z : Int, z = (n : Int) := ⟨_, rfl⟩
  have hz0 : 0 ≤ z := by omega
  have hz1 : z ≤ 18446744073709551615 := by omega
  rw [← hz] at HT HD HE
  have HZZ := Lib.hid hz
  have HBD := Lib.hid hbd
  clear hz hbd
  by_cases hc : most < z
  · have he : e = 0 := Classical.byContradiction fun h => by have := HZ.out h; have := HZZ.out; omega
    subst he
    rw [if_neg (by decide), if_pos hc] at HD HE
    go_enter Try.func47, Try.ntmps47
    go_wp2_with fail
    refine HT.out.mono ?_
    rintro e w1 ⟨rfl, hb1⟩
    have d0 := cell_keep hb1 c0
    have d1 := cell_keep hb1 c1
    have g0 := ((bcell hb1).2 B 0 hB).trans f0
    have g1 := ((bcell hb1).2 B 1 hB).trans f1
    have HB1 := Lib.hid hb1
    clear hb1 c0 c1 f0 f1
    go_wp2_with fail
    go_ret
    refine ⟨by rw [HD.out]; rfl, w1, HB1.out, ?_⟩
    rw [HE.out, setCell_twice]
  · have hd : countOf l most = z := by
      rw [HD.out]
      split
      · rename_i h; have := HZ.out h; have := HZZ.out; omega
      · rfl
    have he : countErr l most = e := by
      rw [HE.out]
      split
      · rfl
      · rename_i h; omega
    have HD2 := Lib.hid hd
    have HE2 := Lib.hid he
    have hc' : decide (most < z) = false := by simpa using hc
    clear hd he HD HE
    go_enter Try.func47, Try.ntmps47
    go_wp2_with fail
    refine HT.out.mono ?_
    rintro e w1 ⟨rfl, hb1⟩
    have d0 := cell_keep hb1 c0
    have d1 := cell_keep hb1 c1
    have g0 := ((bcell hb1).2 B 0 hB).trans f0
    have g1 := ((bcell hb1).2 B 1 hB).trans f1
    have HB1 := Lib.hid hb1
    clear hb1 c0 c1 f0 f1
    go_wp2_with fail
    go_ret
    exact ⟨by rw [HD2.out]; rfl, _, HB1.out, by rw [HE2.out]⟩
set_option maxHeartbeats 2000000 in
theorem taking_count_no (l : List UInt8) (most err : Int) (B : Nat) (w : World) (hb : BoxT w B l err) (he : err ≠ 0) :
    Calls Try.prog 47 #[.pointer (some ⟨B, 0, none⟩), .int .u64 most] w fun e w' => e = .returned (.int .u64 0) ∧ w = w' := by
  obtain ⟨c0, c1, f0, f1⟩ := hb
  have hB := cell_lt c0
  have hne : (err == 0) = false := by simpa using he
  clear he
  go_enter Try.func47, Try.ntmps47
  go_wp2_with fail
  go_ret
  exact ⟨rfl, rfl⟩
end Go.Proofs.Ytgcjfhgkkgocpaa
