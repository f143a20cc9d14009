/- Layer 1's plain mathematics, more: a number read from its highest figure on, and laid again, is what was taken. copyholdref01.TakeNum, TakeText, TakeList: the document's own answers: what is taken is what takeNum, takeText, takeList say; old memory is as it was. copyholdref07.Size, whole, Whole, Text: they answer as the document says; old memory is as it was. What is taken of a text: nodes; the mathematics and what the old contracts say as data. ref07.Take; Take of both sides. -/
import Derived.Test.YtgcjfhgkkgocpaaMrgM
import Derived.Test.YtgcjfhgkkgocpaaMrgP
import Derived.Test.YtgcjfhgkkgocpaaMrgO
import Derived.IntWalk
namespace Copyhold
def valB : List UInt8 → Nat
  | [] => 0
  | b :: r => b.toNat % 128 + 128 * valB r
theorem valB_snoc (x : List UInt8) (b : UInt8) : valB (x ++ [b]) = valB x + (b.toNat % 128) * 128 ^ x.length := by
  induction x with
  | nil => simp [valB]
  | cons y r ih =>
    simp only [List.cons_append, valB, ih, List.length_cons, Nat.pow_succ, Nat.mul_add]
    rw [Nat.mul_comm (128 ^ r.length) 128, Nat.mul_left_comm]
    omega
def TnHead (l : List UInt8) (i : Nat) : Prop := i ≤ l.length ∧ takeNum l = tnGo i (valB (l.take i)) (l.drop i)
theorem tnHead_zero (l : List UInt8) : TnHead l 0 := ⟨Nat.zero_le _, rfl⟩
theorem tnHead_succ {l : List UInt8} {i : Nat} (h : TnHead l i) (hi : i < l.length) (h10 : i < 10) (hb : ¬ l[i].toNat < 128) : TnHead l (i + 1) := by
  refine ⟨hi, ?_⟩
  rw [h.2, List.drop_eq_getElem_cons hi, tnGo, if_pos h10, if_neg hb]
  rw [List.take_succ_eq_append_getElem hi, valB_snoc, List.length_take, Nat.min_eq_left (by omega)]
theorem tnHead_ten {l : List UInt8} (h : TnHead l 10) : takeNum l = (0, [], 3) := by
  rw [h.2]; cases l.drop 10 <;> simp [tnGo]
theorem tnHead_end {l : List UInt8} {i : Nat} (h : TnHead l i) (hi : l.length ≤ i) (h10 : i < 10) : takeNum l = (0, [], 2) := by
  rw [h.2, List.drop_eq_nil_of_le hi, tnGo, if_pos h10]
theorem tnHead_last {l : List UInt8} {i : Nat} (h : TnHead l i) (hi : i < l.length) (h10 : i < 10) (hb : l[i].toNat < 128) :
    (takeNum l = (0, [], 3) ∧ numB (valB (l.take (i + 1)) % 18446744073709551616) ≠ l.take (i + 1)) ∨
    (takeNum l = (valB (l.take (i + 1)), l.drop (i + 1), 0) ∧ numB (valB (l.take (i + 1)) % 18446744073709551616) = l.take (i + 1) ∧ valB (l.take (i + 1)) < 18446744073709551616) := by
  have hv : valB (l.take (i + 1)) = valB (l.take i) + l[i].toNat * 128 ^ i := by
    rw [List.take_succ_eq_append_getElem hi, valB_snoc, List.length_take, Nat.min_eq_left (by omega), Nat.mod_eq_of_lt hb]
  have ht := h.2
  rw [List.drop_eq_getElem_cons hi, tnGo, if_pos h10, if_pos hb] at ht
  by_cases hc : i = 9 ∧ 1 < l[i].toNat ∨ 0 < i ∧ l[i].toNat = 0
  · rw [if_pos hc] at ht
    refine .inl ⟨ht, fun he => ?_⟩
    have := takeNum_numB (valB (l.take (i + 1)) % 18446744073709551616) (l.drop (i + 1)) (Nat.mod_lt _ (by decide))
    rw [he, List.take_append_drop, ht] at this
    simp at this
  · rw [if_neg hc, ← hv] at ht
    have hbd := (takeNum_bd l).1
    have hl := takeNum_laid l (by rw [ht])
    rw [ht] at hbd hl
    simp only at hbd hl
    refine .inr ⟨ht, ?_, hbd⟩
    rw [Nat.mod_eq_of_lt hbd]
    have h2 : l.take (i + 1) ++ l.drop (i + 1) = numB (valB (l.take (i + 1))) ++ l.drop (i + 1) := by rw [List.take_append_drop]; exact hl
    exact (List.append_cancel_right h2).symm
theorem valB_seg (l : List UInt8) (i k : Nat) (hk : k ≤ i) (hi : i < l.length) : valB ((l.take (i + 1)).drop k) = l[k].toNat % 128 + 128 * valB ((l.take (i + 1)).drop (k + 1)) := by
  have hlt : k < (l.take (i + 1)).length := by rw [List.length_take]; omega
  rw [List.drop_eq_getElem_cons hlt, valB]
  simp
end Copyhold

namespace Go.Proofs.Ytgcjfhgkkgocpaa
open Go.RowKit Copyhold
attribute [local go_sem] piece
set_option maxRecDepth 100000 in
set_option maxHeartbeats 2000000 in
theorem ref_TakeNum (l : List UInt8) (w : World) (hl : l.length ≤ 140737488355328) :
    Calls Try.prog 32 #[.string ⟨l.toArray⟩] w fun e w' => e = .returned (.tuple #[.int .u64 (takeNum l).1, .string ⟨(takeNum l).2.1.toArray⟩, .int .i64 (takeNum l).2.2]) ∧ Below w.heap.size w w' := by
  go_enter Try.func32, Try.ntmps32
  go_wp2_with fail
  go_loop [5] (fun si => ∃ i : Nat, i < 10 ∧ TnHead l i ∧ si = .int .i64 i) (fun si => 10 - (intOf si).toNat)
  case atStart => exact ⟨0, by decide, tnHead_zero l, rfl⟩
  case round =>
    obtain ⟨i, hi10, hh, rfl⟩ := hrel
    have hil := hh.1
    have HH := Lib.hid hh
    clear hh
    by_cases hin : i < l.length
    · have hbb : l[i].toNat < 256 := l[i].toNat_lt
      have hbi : (⟨l.toArray⟩ : ByteArray)[i]'(by simpa [ByteArray.size] using hin) = l[i] := rfl
      by_cases hb : l[i].toNat < 128
      · have HE := Lib.hid (tnHead_last HH.out hin hi10 hb)
        go_wp2_with fail
        clear hbi hbb hb HH
        go_loop [6, 7] (fun sn sk => ∃ (j : Nat) (z : Int), j ≤ i + 1 ∧ 0 ≤ z ∧ z ≤ 18446744073709551615 ∧ z = ((valB ((l.take (i + 1)).drop j) % 18446744073709551616 : Nat) : Int) ∧ sk = .int .i64 ((j : Int) - 1) ∧ sn = .int .u64 z) (fun _ sk => (intOf sk + 1).toNat)
        case atStart => exact ⟨i + 1, 0, Nat.le_refl _, by omega, by omega, by rw [List.drop_eq_nil_of_le (by rw [List.length_take]; omega)]; rfl, by go_num, rfl⟩
        case round =>
          obtain ⟨j, z, hj, hz0, hz1, hz, rfl, rfl⟩ := hrel
          have HZ := Lib.hid hz
          clear hz
          by_cases hj0 : 0 < j
          · obtain ⟨k, rfl⟩ : ∃ k, j = k + 1 := ⟨j - 1, by omega⟩
            have hkl : k < l.length := by omega
            have hbk : (⟨l.toArray⟩ : ByteArray)[k]'(by simpa [ByteArray.size] using hkl) = l[k] := rfl
            have hbb : l[k].toNat < 256 := l[k].toNat_lt
            have HS := Lib.hid (valB_seg l i k (by omega) hin)
            have hk1 : ((k + 1 : Nat) : Int) - 1 = (k : Int) := by omega
            rw [hk1]
            clear hk1
            generalize l[k] = b at *
            go_wp2_with fail
            have hs := HS.out
            have hz := HZ.out
            exact ⟨⟨k, _, by omega, by rw [wrap_u64']; omega, by rw [wrap_u64']; omega, by rw [wrap_u64', wrap_u64', hs, hz]; first | done | omega, rfl, rfl⟩, by simp [intOf] <;> omega⟩
          · obtain rfl : j = 0 := by omega
            have hz := HZ.out
            rw [List.drop_zero] at hz
            clear HZ
            have hzn : z.toNat = valB (l.take (i + 1)) % 18446744073709551616 := by rw [hz, Int.toNat_natCast]
            have e1 : IntKind.i64.wrap ((i : Int) + 1) = (i : Int) + 1 := IntWalk.i64_in _ (by omega)
            have e2 : ((i : Int) + 1).toNat = i + 1 := by omega
            have e3 : (0 : Int) ≤ (i : Int) + 1 := by omega
            have e4 : (i : Int) + 1 ≤ (l.length : Int) := by omega
            have e5 : i + 1 ≤ l.length := by omega
            rcases HE.out with ⟨hbad, hne⟩ | ⟨hgood, heq, hlt⟩
            · rw [← hzn] at hne
              have hq : (numB z.toNat == l.take (i + 1)) = false := by simpa using hne
              have HB := Lib.hid hbad
              clear hbad hne hz hzn HE
              go_wp2_with fail
              go_region_with (go_at_call 51; refine (ref_Num _ _ hz0 hz1).mono ?_; rintro e w1 ⟨rfl, hb1⟩)
              all_goals
                clear e1 e2
                go_wp2_with fail
                go_ret3
                exact ⟨by rw [HB.out]; rfl, (Below.refl _ _).drew.trans hb1⟩
            · rw [← hzn] at heq
              have hzz : z = ((valB (l.take (i + 1)) : Nat) : Int) := by rw [hz, Nat.mod_eq_of_lt hlt]
              have HZ := Lib.hid hzz
              have HG := Lib.hid hgood
              clear hgood hz hzn HE hzz hlt
              go_wp2_with fail
              go_region_with (go_at_call 51; refine (ref_Num _ _ hz0 hz1).mono ?_; rintro e w1 ⟨rfl, hb1⟩)
              all_goals
                go_wp2_with fail
                go_quiet (fail)
                clear e1 e2
                go_wp2_with fail
                go_ret3
                exact ⟨by rw [HG.out]; exact ret3 (congrArg _ HZ.out) rfl rfl, below_drewN ((Below.refl _ _).drew.trans hb1) _⟩
      · have HE := Lib.hid (tnHead_succ HH.out hin hi10 hb)
        by_cases h9 : i = 9
        · have HT := Lib.hid (tnHead_ten (l := l) (by have h := HE.out; rwa [h9] at h))
          clear HE HH
          subst h9
          go_wp2_with fail
          go_ret3
          exact ⟨by rw [HT.out]; rfl, Below.refl _ _⟩
        · have h10 : i < 9 := by omega
          clear h9
          go_wp2_with fail
          exact ⟨⟨i + 1, by omega, HE.out, by go_num⟩, by simp [intOf]; omega⟩
    · have HE := Lib.hid (tnHead_end HH.out (by omega) hi10)
      go_wp2_with fail
      go_ret3
      exact ⟨by rw [HE.out]; rfl, Below.refl _ _⟩
set_option maxHeartbeats 1000000 in
theorem ref_TakeText (l : List UInt8) (most : Int) (w : World) (hl : l.length ≤ 140737488355328) (hm1 : -9223372036854775808 ≤ most) (hm2 : most ≤ 9223372036854775807) :
    Calls Try.prog 52 #[.string ⟨l.toArray⟩, .int .i64 most] w fun e w' => e = .returned (.tuple #[.string ⟨(takeText l most).1.toArray⟩, .string ⟨(takeText l most).2.1.toArray⟩, .int .i64 (takeText l most).2.2]) ∧ Below w.heap.size w w' := by
  have hbd := takeNum_bd l
  obtain ⟨z, hz⟩ : ∃ z : Int, z = ((takeNum l).1 : Int) := ⟨_, rfl⟩
  have hz0 : 0 ≤ z := by omega
  have hz1 : z ≤ 18446744073709551615 := by omega
  have hr : (takeNum l).2.1.length ≤ 140737488355328 := by omega
  have hz2 : z.toNat = (takeNum l).1 := by omega
  have HT := Lib.hid (show takeText l most = if (takeNum l).2.2 ≠ 0 then ([], [], (takeNum l).2.2) else if most < 0 ∨ most < z then ([], [], 5) else if (takeNum l).2.1.length < z.toNat then ([], [], 2) else ((takeNum l).2.1.take z.toNat, (takeNum l).2.1.drop z.toNat, 0) from by
    rw [hz2, hz]
    unfold takeText takeCount
    by_cases h1 : (takeNum l).2.2 ≠ 0
    · simp only [if_pos h1]
    · simp only [if_neg h1]
      by_cases h2 : most < 0 ∨ most < ((takeNum l).1 : Int)
      · simp [if_pos h2]
      · simp only [if_neg h2, if_neg h1])
  have HN := Lib.hid hz
  clear hbd hz hz2
  go_enter Try.func52, Try.ntmps52
  go_wp2_with fail
  refine (ref_TakeNum l _ hl).mono ?_
  rintro e w1 ⟨rfl, hb1⟩
  rw [← HN.out]
  clear HN
  generalize (takeNum l).2.1 = r at *
  generalize (takeNum l).2.2 = e at *
  by_cases he : e = 0
  · subst he
    rcases (show most < 0 ∨ 0 ≤ most ∧ most < z ∨ 0 ≤ most ∧ z ≤ most ∧ (r.length : Int) < z ∨ 0 ≤ most ∧ z ≤ most ∧ z ≤ (r.length : Int) from by omega) with h | ⟨h, h'⟩ | ⟨h, h', h''⟩ | ⟨h, h', h''⟩
    · have HF := Lib.hid (show takeText l most = ([], [], 5) by rw [HT.out, if_neg (by simp), if_pos (.inl h)])
      clear HT
      go_wp2_with fail
      go_ret3
      exact ⟨by rw [HF.out]; rfl, hb1⟩
    · have HF := Lib.hid (show takeText l most = ([], [], 5) by rw [HT.out, if_neg (by simp), if_pos (.inr h')])
      clear HT
      go_wp2_with fail
      go_ret3
      exact ⟨by rw [HF.out]; rfl, hb1⟩
    · have HF := Lib.hid (show takeText l most = ([], [], 2) by rw [HT.out, if_neg (by simp), if_neg (by omega), if_pos (by omega)])
      clear HT
      go_wp2_with fail
      go_ret3
      exact ⟨by rw [HF.out]; rfl, hb1⟩
    · obtain ⟨n, rfl⟩ := Int.eq_ofNat_of_zero_le hz0
      have HF := Lib.hid (show takeText l most = (r.take n, r.drop n, 0) by rw [HT.out, if_neg (by simp), if_neg (by omega), if_neg (by omega), Int.toNat_natCast])
      have hnl : n ≤ r.length := by omega
      clear HT hz1 hz0 h''
      go_wp2_with fail
      go_quiet (fail)
      go_wp2_with fail
      go_ret3
      refine ⟨?_, below_drewN hb1 _⟩
      rw [HF.out]
      first
        | rfl
        | exact ret3 (congrArg Value.string (piece r 0 n)) (congrArg Value.string (piece_end r n)) rfl
        | exact ret3 (by simp) (by simp) rfl
  · have HF := Lib.hid (show takeText l most = ([], [], e) by rw [HT.out, if_pos he])
    have hne : (e == 0) = false := by simpa using he
    have hne2 : (e != 0) = true := by simpa using he
    clear he HT
    go_wp2_with fail
    go_ret3
    exact ⟨by rw [HF.out]; rfl, hb1⟩
end Go.Proofs.Ytgcjfhgkkgocpaa

set_option linter.unusedVariables false
set_option linter.unusedSimpArgs false
namespace Go.Proofs.Ytgcjfhgkkgocpaa
open Go.RowKit Copyhold Copyhold.Name
set_option maxHeartbeats 2000000 in
theorem ref07_Whole (l : List UInt8) (w : World) (hl : l.length ≤ 140737488355328) :
    Calls Try.prog 31 #[.string ⟨l.toArray⟩] w fun e w' => e = .returned (.tuple #[.int .i64 (takeWhole l).1, .string ⟨(takeWhole l).2.1.toArray⟩, .int .i64 (takeWhole l).2.2]) ∧ Below w.heap.size w w' := by
  have hbd := takeNum_bd l
  have HT := Lib.hid (ref_TakeNum l w hl)
  have HD : Hid (takeWhole l = (unfoldN ((takeNum l).1 : Int), (takeNum l).2.1, (takeNum l).2.2)) := Lib.hid rfl
  generalize takeNum l = x at *
  obtain ⟨n, r, e⟩ := x
  simp only at HT HD hbd
  have HU := Lib.hid (fun W => ref_Unfold (n : Int) W (by omega) (by omega))
  have HBD := Lib.hid hbd
  clear hbd
  go_enter Try.func31, Try.ntmps31
  go_wp2_with fail
  refine HT.out.mono ?_
  rintro e w1 ⟨rfl, hb1⟩
  have HB1 := Lib.hid hb1
  clear hb1
  go_wp2_with fail
  refine (HU.out _).mono ?_
  rintro e w2 ⟨rfl, rfl⟩
  go_wp2_with fail
  go_ret3
  exact ⟨by rw [HD.out]; rfl, HB1.out⟩
end Go.Proofs.Ytgcjfhgkkgocpaa

set_option linter.unusedVariables false
set_option linter.unusedSimpArgs false
namespace Go.Proofs.Ytgcjfhgkkgocpaa
open Go Go.RowKit Copyhold Copyhold.Name
abbrev NEnt := Copyhold.Name.Ent
abbrev NNd := Copyhold.Name.Nd
def entO (x : NEnt) : Ent := ⟨x.1, x.2⟩
def nodO (n : NNd) : Nod := ⟨n.ino, n.kind, n.links, n.text, n.l.map entO⟩
def nodI (n : Nod) : NNd := ⟨n.ino, n.kind, n.links, n.text, n.l.map fun e => (e.name, e.ino)⟩
theorem nodO_I (n : Nod) : nodO (nodI n) = n := by
  unfold nodO nodI
  simp only [List.map_map]
  have : (entO ∘ fun e : Ent => ((e.name, e.ino) : NEnt)) = id := by funext e; rfl
  rw [this, List.map_id]
theorem nodI_O (n : NNd) : nodI (nodO n) = n := by
  unfold nodO nodI
  simp only [List.map_map]
  have : ((fun e : Ent => ((e.name, e.ino) : NEnt)) ∘ entO) = id := by funext e; rfl
  rw [this, List.map_id]
theorem nodO_ok {n : NNd} (h : OkNd n) : OkN (nodO n) := by
  refine ⟨h.1, h.2.1, h.2.2.1, h.2.2.2.1, ?_, fun e he => ?_⟩
  · show (n.l.map entO).length ≤ _
    have := h.2.2.2.2.2
    rw [List.length_map]; omega
  · obtain ⟨x, hx, rfl⟩ := List.mem_map.1 he
    have := h.2.2.2.2.1 x hx
    exact ⟨this.1, this.2⟩
theorem ents_ra {D : Nat → Prop} {w : World} {A : Option Addr} {c : Nat} {l : List NEnt} (h : Ents w (.slice A l.length c) l) (hD : ∀ a, A = some a → 0 < l.length → D a.block) : Ra D w (.sl 2 false ((l.map entO).map entA)) (.slice A l.length c) := by
  obtain ⟨A', c', e, hc, hl, hh⟩ := h
  cases e
  have hlen : ((l.map entO).map entA).length = l.length := by simp
  by_cases h0 : 0 < l.length
  · obtain ⟨b, off, rfl, hb, hcell⟩ := hh h0
    have key : ∀ (i : Nat) (e : List AV) (j : Nat) (x : AV), ((l.map entO).map entA)[i]? = some e → e[j]? = some x → ∃ u, (l.flatMap Copyhold.Name.entC)[i * 2 + j]? = some u ∧ u.oneCell' = true ∧ Ra D w x u := by
      intro i e j x he hx
      rw [List.getElem?_map, List.getElem?_map] at he
      obtain ⟨g1, g2⟩ := Copyhold.Name.entC_get l i
      cases hli : l[i]? with
      | none => rw [hli] at he; cases he
      | some y =>
        rw [hli] at he g1 g2
        obtain rfl := Option.some.inj he
        match j, hx with
        | 0, hx =>
          obtain rfl := Option.some.inj hx
          exact ⟨_, g1, rfl, .val _⟩
        | 1, hx =>
          obtain rfl := Option.some.inj hx
          exact ⟨_, g2, rfl, .val _⟩
        | j + 2, hx => simp [entA] at hx
    have := Ra.sl (D := D) (w := w) 2 false ((l.map entO).map entA) (some ⟨b, off, none⟩) c b off (fun i j => (l.flatMap Copyhold.Name.entC).getD (i * 2 + j) undef) (by omega) (fun h => by cases h) (fun _ => ⟨rfl, hD _ rfl h0, hb⟩)
      (fun i e he => by
        rw [List.getElem?_map] at he
        cases hli : (l.map entO)[i]? with
        | none => rw [hli] at he; cases he
        | some y => rw [hli] at he; obtain rfl := Option.some.inj he; rfl)
      (fun i e j x he hx => by
        obtain ⟨u, h1, h2, _⟩ := key i e j x he hx
        simp only [List.getD, h1, Option.getD_some]
        exact ⟨hcell _ u h1, h2⟩)
      (fun i e j x he hx => by
        obtain ⟨u, h1, _, h3⟩ := key i e j x he hx
        simp only [List.getD, h1, Option.getD_some]
        exact h3)
    rw [hlen] at this
    exact this
  · have h1 : l = [] := List.eq_nil_of_length_eq_zero (by omega)
    subst h1
    exact .sl 2 false [] A c 0 0 (fun _ _ => undef) (Nat.zero_le _) (fun h => by cases h) (fun h => absurd h (by simp)) (fun i e h => by simp at h) (fun i e j x h => by simp at h) (fun i e j x h => by simp at h)
theorem fspec_plain {P : Program} {f : FuncId} {args : List AV} {r : AV} {v : Value} (hr : ∀ D w, Ra D w r v) (h : ∀ D w vs, RaAll D w args vs → Calls P f vs w (fun e w' => e = .returned v ∧ Below w.heap.size w w')) : FSpec P f args r := fun D w vs hD hv =>
  (h D w vs hv).mono fun e w' ⟨h1, h2⟩ => ⟨v, D, h1, h2, fun _ h => h, fun b hb => ⟨Nat.lt_of_lt_of_le (hD b hb) h2.size, .inl hb⟩, hr D w'⟩
theorem ra_one {D : Nat → Prop} {w : World} {x : AV} {vs : Array Value} (h : RaAll D w [x] vs) : ∃ u, vs = #[u] ∧ Ra D w x u := by
  have h1 := h.1
  have h0 : 0 < vs.size := by simp at h1; omega
  refine ⟨vs[0], ?_, h.2 0 _ _ rfl (Array.getElem?_eq_getElem h0)⟩
  apply Array.ext
  · simpa using h1.symm
  · intro i h2 h3
    have : i = 0 := by simp at h1; omega
    subst this
    rfl
theorem tup3_ra (a b c : Value) (D : Nat → Prop) (w : World) : Ra D w (.tup [.val a, .val b, .val c]) (.tuple #[a, b, c]) := .tup _ _ rfl fun j x v hx hv => by
  match j, hx, hv with
  | 0, hx, hv => cases hx; cases hv; exact .val _
  | 1, hx, hv => cases hx; cases hv; exact .val _
  | 2, hx, hv => cases hx; cases hv; exact .val _
  | j + 3, hx, _ => simp at hx
theorem takeNum_spec (s : Txt) (hs : s.length ≤ 140737488355328) : FSpec Try.prog 27 [aS s] (.tup [.val (.int .u64 ((takeNum s).1 : Int)), aS (takeNum s).2.1, aI (takeNum s).2.2]) := fspec_plain (tup3_ra _ _ _) fun D w vs h => by
  obtain ⟨u, rfl, hu⟩ := ra_one h
  cases hu
  exact octet_TakeNum s w hs
theorem rtakeNum_spec (s : Txt) (hs : s.length ≤ 140737488355328) : FSpec Try.prog 32 [aS s] (.tup [.val (.int .u64 ((takeNum s).1 : Int)), aS (takeNum s).2.1, aI (takeNum s).2.2]) := fspec_plain (tup3_ra _ _ _) fun D w vs h => by
  obtain ⟨u, rfl, hu⟩ := ra_one h
  cases hu
  exact ref_TakeNum s w hs
theorem rwhole_spec (s : Txt) (hs : s.length ≤ 140737488355328) : FSpec Try.prog 31 [aS s] (.tup [aI (takeWhole s).1, aS (takeWhole s).2.1, aI (takeWhole s).2.2]) := fspec_plain (tup3_ra _ _ _) fun D w vs h => by
  obtain ⟨u, rfl, hu⟩ := ra_one h
  cases hu
  exact ref07_Whole s w hs
theorem unfold_spec (n : Int) (h1 : 0 ≤ n) (h2 : n ≤ 18446744073709551615) : FSpec Try.prog 28 [.val (.int .u64 n)] (aI (unfoldN n)) := fspec_plain (fun _ _ => .val _) fun D w vs h => by
  obtain ⟨u, rfl, hu⟩ := ra_one h
  cases hu
  exact (octet_Unfold n w h1 h2).mono fun e w' ⟨g1, g2⟩ => ⟨g1, g2 ▸ Below.refl _ _⟩
theorem node_ra {D : Nat → Prop} {w w' : World} {s : Txt} {r : NNd × Txt × Int} {v : Value} (hD : ∀ b, D b → b < w.heap.size) (hv : NodeV w' v r.1) (hb : Below w.heap.size w w') (hat : ∀ a b c d A n k, v = .agg #[a, b, c, d, .slice A n k] → At (w.heap.size ≤ ·) (.slice A n k)) :
    ∃ D' : Nat → Prop, (∀ b, D b → D' b) ∧ (∀ b, D' b → b < w'.heap.size ∧ (D b ∨ w.heap.size ≤ b)) ∧ Ra D' w' (.agg (nodA (nodO r.1))) v := by
  obtain ⟨A, c, rfl, hE⟩ := hv
  have hat' := hat _ _ _ _ A r.1.l.length c rfl
  refine ⟨fun b => D b ∨ (∃ a, A = some a ∧ 0 < r.1.l.length ∧ b = a.block), fun b h => .inl h, fun b h => ?_, ?_⟩
  · rcases h with h | ⟨a, rfl, h0, rfl⟩
    · exact ⟨Nat.lt_of_lt_of_le (hD b h) hb.size, .inl h⟩
    · obtain ⟨A', c', e, _, _, hh⟩ := hE
      cases e
      obtain ⟨b, off, e, hlt, _⟩ := hh h0
      cases e
      exact ⟨hlt, .inr (hat' h0)⟩
  · refine .agg _ _ rfl (fun j v hv => ?_) (fun j x v hx hv => ?_)
    · match j, hv with
      | 0, hv => cases hv; rfl
      | 1, hv => cases hv; rfl
      | 2, hv => cases hv; rfl
      | 3, hv => cases hv; rfl
      | 4, hv => cases hv; rfl
      | j + 5, hv => simp at hv
    · match j, hx, hv with
      | 0, hx, hv => cases hx; cases hv; exact .val _
      | 1, hx, hv => cases hx; cases hv; exact .val _
      | 2, hx, hv => cases hx; cases hv; exact .val _
      | 3, hx, hv => cases hx; cases hv; exact .val _
      | 4, hx, hv => cases hx; cases hv; exact ents_ra hE (fun a ha h0 => .inr ⟨a, ha, h0, rfl⟩)
      | j + 5, hx, _ => simp [nodA] at hx
theorem ntake_of {f : FuncId} {s : Txt} (h : ∀ w, Calls Try.prog f #[.string ⟨s.toArray⟩] w (TakeIs2 w (takeNode s))) : FSpec Try.prog f [aS s] (.tup [.agg (nodA (nodO (takeNode s).1)), aS (takeNode s).2.1, aI (takeNode s).2.2]) := by
  intro D w vs hD hv
  obtain ⟨u, rfl, hu⟩ := ra_one hv
  cases hu
  refine (h w).mono ?_
  rintro e w' ⟨v, rfl, hv, hb, hat⟩
  obtain ⟨D', h1, h2, h3⟩ := node_ra (s := s) (r := takeNode s) hD hv hb hat
  refine ⟨_, D', rfl, hb, h1, h2, .tup _ _ rfl fun j x v hx hv => ?_⟩
  match j, hx, hv with
  | 0, hx, hv => cases hx; cases hv; exact h3
  | 1, hx, hv => cases hx; cases hv; exact .val _
  | 2, hx, hv => cases hx; cases hv; exact .val _
  | j + 3, hx, _ => simp at hx
theorem ntake_spec (s : Txt) (hs : s.length ≤ 140737488351232) : FSpec Try.prog 29 [aS s] (.tup [.agg (nodA (nodO (takeNode s).1)), aS (takeNode s).2.1, aI (takeNode s).2.2]) := ntake_of fun w => node_Take2 s w hs
theorem rtakeText_spec (s : Txt) (m : Int) (hs : s.length ≤ 140737488355328) (h1 : -9223372036854775808 ≤ m) (h2 : m ≤ 9223372036854775807) : FSpec Try.prog 52 [aS s, aI m] (.tup [aS (takeText s m).1, aS (takeText s m).2.1, aI (takeText s m).2.2]) := fspec_plain (tup3_ra _ _ _) fun D w vs h => by
  obtain ⟨u, v, rfl, hu, hv⟩ := h.two
  cases hu
  cases hv
  exact ref_TakeText s m w hs h1 h2
def takeFs : Nat → List Nod → Txt → List Nod × Txt × Int
  | 0, acc, s => (acc, s, 0)
  | m + 1, acc, s => if (takeNode s).2.2 = 0 then takeFs m (acc ++ [nodO (takeNode s).1]) (takeNode s).2.1 else ([], [], (takeNode s).2.2)
def fs0 : Fsy := ⟨[], 0⟩
open Classical in
noncomputable def endF (f : Fsy) (s : Txt) : Fsy × Int := if rowsP f ∧ s = [] then (f, 0) else (fs0, 3)
noncomputable def takeF (s : Txt) : Fsy × Int :=
  if (takeNum s).2.2 ≠ 0 then (fs0, (takeNum s).2.2) else
  if (takeNum (takeNum s).2.1).2.2 ≠ 0 then (fs0, (takeNum (takeNum s).2.1).2.2) else
  if (takeNum (takeNum s).2.1).1 > 256 then (fs0, 5) else
  if (takeFs (takeNum (takeNum s).2.1).1 [] (takeNum (takeNum s).2.1).2.1).2.2 ≠ 0 then (fs0, (takeFs (takeNum (takeNum s).2.1).1 [] (takeNum (takeNum s).2.1).2.1).2.2)
  else endF ⟨(takeFs (takeNum (takeNum s).2.1).1 [] (takeNum (takeNum s).2.1).2.1).1, unfoldN ((takeNum s).1 : Int)⟩ (takeFs (takeNum (takeNum s).2.1).1 [] (takeNum (takeNum s).2.1).2.1).2.1
end Go.Proofs.Ytgcjfhgkkgocpaa

set_option linter.unusedVariables false
set_option linter.unusedSimpArgs false
namespace Go.Proofs.Ytgcjfhgkkgocpaa
open Go Go.RowKit Copyhold
theorem takeFs_step {m : Nat} {acc : List Nod} {s : Txt} (h : (takeNode s).2.2 = 0) : takeFs (m + 1) acc s = takeFs m (acc ++ [nodO (takeNode s).1]) (takeNode s).2.1 := if_pos h
theorem takeFs_bad {m : Nat} {acc : List Nod} {s : Txt} (h : ¬ (takeNode s).2.2 = 0) : takeFs (m + 1) acc s = ([], [], (takeNode s).2.2) := if_neg h
def TkH (s : Txt) (k : Nat) (acc : List Nod) (rest : Txt) : Prop := k ≤ (takeNum (takeNum s).2.1).1 ∧ takeFs (takeNum (takeNum s).2.1).1 [] (takeNum (takeNum s).2.1).2.1 = takeFs ((takeNum (takeNum s).2.1).1 - k) acc rest ∧ acc.length = k ∧ rest.length ≤ s.length ∧ ∀ n ∈ acc, OkN n
theorem takeNum_le (s : Txt) : (takeNum s).2.1.length ≤ s.length := (takeNum_bd s).2.1
theorem tk0 (s : Txt) : TkH s 0 [] (takeNum (takeNum s).2.1).2.1 := ⟨Nat.zero_le _, rfl, rfl, Nat.le_trans (takeNum_le _) (takeNum_le _), fun n h => by cases h⟩
theorem tk_step {s : Txt} {k : Nat} {acc : List Nod} {rest : Txt} (H : TkH s k acc rest) (hk : k < (takeNum (takeNum s).2.1).1) (h : (takeNode rest).2.2 = 0) : TkH s (k + 1) (acc ++ [nodO (takeNode rest).1]) (takeNode rest).2.1 := by
  obtain ⟨h1, h2, h3, h4, h5⟩ := H
  refine ⟨hk, ?_, by simp [h3], Nat.le_trans (takeNode_bd rest).2.2 h4, fun n hn => ?_⟩
  · rw [h2, show (takeNum (takeNum s).2.1).1 - k = ((takeNum (takeNum s).2.1).1 - (k + 1)) + 1 from by omega, takeFs_step h]
  · rcases List.mem_append.1 hn with hn | hn
    · exact h5 n hn
    · obtain rfl := List.mem_singleton.1 hn
      exact nodO_ok (takeNode_ok rest)
theorem tk_bad {s : Txt} {k : Nat} {acc : List Nod} {rest : Txt} (H : TkH s k acc rest) (hk : k < (takeNum (takeNum s).2.1).1) (h : ¬ (takeNode rest).2.2 = 0) : (takeFs (takeNum (takeNum s).2.1).1 [] (takeNum (takeNum s).2.1).2.1).2.2 = (takeNode rest).2.2 := by
  obtain ⟨h1, h2, h3, h4, h5⟩ := H
  rw [h2, show (takeNum (takeNum s).2.1).1 - k = ((takeNum (takeNum s).2.1).1 - (k + 1)) + 1 from by omega, takeFs_bad h]
theorem tk_end {s : Txt} {k : Nat} {acc : List Nod} {rest : Txt} (H : TkH s k acc rest) (hk : ¬ k < (takeNum (takeNum s).2.1).1) : takeFs (takeNum (takeNum s).2.1).1 [] (takeNum (takeNum s).2.1).2.1 = (acc, rest, 0) := by
  obtain ⟨h1, h2, h3, h4, h5⟩ := H
  rw [h2, show (takeNum (takeNum s).2.1).1 - k = 0 from by omega]
  rfl
theorem fs0_sub : Sub (.agg [aN, aI 0]) (.agg (fsyA fs0)) := Sub.aggs ⟨Sub.nil _ _, Sub.refl _, trivial⟩
theorem takeF_1 {s : Txt} (h : ¬ (takeNum s).2.2 = 0) : takeF s = (fs0, (takeNum s).2.2) := if_pos h
theorem takeF_2 {s : Txt} (h1 : (takeNum s).2.2 = 0) (h : ¬ (takeNum (takeNum s).2.1).2.2 = 0) : takeF s = (fs0, (takeNum (takeNum s).2.1).2.2) := by
  unfold takeF; rw [if_neg (by simp [h1]), if_pos h]
theorem takeF_3 {s : Txt} (h1 : (takeNum s).2.2 = 0) (h2 : (takeNum (takeNum s).2.1).2.2 = 0) (h : ((takeNum (takeNum s).2.1).1 : Int) > 256) : takeF s = (fs0, 5) := by
  unfold takeF; rw [if_neg (by simp [h1]), if_neg (by simp [h2]), if_pos (by omega)]
theorem takeF_4 {s : Txt} {e : Int} (h1 : (takeNum s).2.2 = 0) (h2 : (takeNum (takeNum s).2.1).2.2 = 0) (h3 : ¬ ((takeNum (takeNum s).2.1).1 : Int) > 256) (h : (takeFs (takeNum (takeNum s).2.1).1 [] (takeNum (takeNum s).2.1).2.1).2.2 = e) (he : ¬ e = 0) : takeF s = (fs0, e) := by
  unfold takeF; rw [if_neg (by simp [h1]), if_neg (by simp [h2]), if_neg (by omega), h, if_pos he]
theorem takeF_5 {s : Txt} {acc : List Nod} {rest : Txt} (h1 : (takeNum s).2.2 = 0) (h2 : (takeNum (takeNum s).2.1).2.2 = 0) (h3 : ¬ ((takeNum (takeNum s).2.1).1 : Int) > 256) (h : takeFs (takeNum (takeNum s).2.1).1 [] (takeNum (takeNum s).2.1).2.1 = (acc, rest, 0)) : takeF s = endF ⟨acc, unfoldN ((takeNum s).1 : Int)⟩ rest := by
  unfold takeF; rw [if_neg (by simp [h1]), if_neg (by simp [h2]), if_neg (by omega), h, if_neg (by simp)]
theorem endF_yes {f : Fsy} {s : Txt} (h1 : rowsP f) (h2 : s = []) : endF f s = (f, 0) := if_pos ⟨h1, h2⟩
theorem endF_no {f : Fsy} {s : Txt} (h : ¬ (rowsP f ∧ s = [])) : endF f s = (fs0, 3) := if_neg h
theorem tkF_ok {s : Txt} {k : Nat} {acc : List Nod} {rest : Txt} (H : TkH s k acc rest) (hm : (takeNum (takeNum s).2.1).1 ≤ 256) : OkF ⟨acc, unfoldN ((takeNum s).1 : Int)⟩ := by
  have h := takeWhole_bd s
  refine ⟨h.1, ?_, H.2.2.2.2⟩
  show acc.length ≤ _
  have := H.1
  rw [H.2.2.1]; omega
set_option maxRecDepth 100000 in
set_option maxHeartbeats 4000000 in
theorem take_spec (s : Txt) (hs : s.length ≤ 140737488351232) : FSpec Try.prog 10 [aS s] (.tup [.agg (fsyA (takeF s).1), aI (takeF s).2]) := by
  exact spec_vc (F := Try.f10) 400 (
 .new fun b1 => .r 1 <| .r 1 <| .call (takeNum_spec s (by omega)) <|
 .r 7 <| .r 2 <| .br 17 (((takeNum s).2.2) != 0) (fun q1 => have p1 := bneT q1; .run 4 [b1 = b1] ⟨rfl, trivial⟩ <|
 .fin (x := .tup [.agg [aN, aI 0], aI ((takeNum s).2.2)]) (r := .tup [.agg (fsyA (takeF s).1), aI (takeF s).2]) [b1 = b1] ⟨rfl, trivial⟩ (by
    rw [takeF_1 (by omega)]
    exact Sub.tups ⟨fs0_sub, Sub.refl _, trivial⟩))
 <| fun q1 => have p1 := bneF q1; .r 1 <| .call (takeNum_spec (takeNum s).2.1 (Nat.le_trans (takeNum_le _) (by omega))) <|
 .r 7 <| .r 2 <| .br 27 (((takeNum (takeNum s).2.1).2.2) != 0) (fun q2 => have p2 := bneT q2; .run 4 [b1 = b1] ⟨rfl, trivial⟩ <|
 .fin (x := .tup [.agg [aN, aI 0], aI ((takeNum (takeNum s).2.1).2.2)]) (r := .tup [.agg (fsyA (takeF s).1), aI (takeF s).2]) [b1 = b1] ⟨rfl, trivial⟩ (by
    rw [takeF_2 (by omega) (by omega)]
    exact Sub.tups ⟨fs0_sub, Sub.refl _, trivial⟩))
 <| fun q2 => have p2 := bneF q2; .r 1 <| .binV .gtr 55 (gtrN (k := .u64) (a := ((takeNum (takeNum s).2.1).1 : Int)) (b := 256)) <|
 .br 31 (decide (((takeNum (takeNum s).2.1).1 : Int) > 256)) (fun q3 => have p3 := decT q3; .run 3 [b1 = b1] ⟨rfl, trivial⟩ <|
 .fin (x := .tup [.agg [aN, aI 0], aI 5]) (r := .tup [.agg (fsyA (takeF s).1), aI (takeF s).2]) [b1 = b1] ⟨rfl, trivial⟩ (by
    rw [takeF_3 (by omega) (by omega) (by omega)]
    exact Sub.tups ⟨fs0_sub, Sub.refl _, trivial⟩))
 <| fun q3 => have p3 := decF q3; .r 1 <| .call (unfold_spec ((takeNum s).1 : Int) (by omega) (by have := (takeNum_bd s).1; omega)) <|
 .r 1 <| .new fun b2 => .run 1 [b2 = b2] ⟨rfl, trivial⟩ <|
 .rowNilB 100 8 0 27 5 <| .r 2 <| let L1 : Lp (Nat × List Nod × Txt × Value) := ⟨fun a1 => ⟨[(2, .ptr 2 b1 0), (8, .ptr 8 b2 0), (36, .val (.int .u64 ((takeNum (takeNum s).2.1).1 : Int))), (37, .val (.int .u64 (a1.1 : Int))), (5, aS a1.2.2.1)], [(2, .box b1 24 [aN, aI 0]), (8, .box b2 24 [.rw 100 a1.2.2.2 a1.2.1.length, aI (unfoldN ((takeNum s).1 : Int))]), (100, .row a1.2.2.2 27 5 (a1.2.1.map nodA))]⟩, fun a1 => (takeNum (takeNum s).2.1).1 - a1.1, fun a1 => TkH s a1.1 a1.2.1 a1.2.2.1⟩
 .loop L1 (0, [], (takeNum (takeNum s).2.1).2.1, .slice none 0 0) (show TkH s 0 ([]) ((takeNum (takeNum s).2.1).2.1) from (tk0 s)) ⟨[(2, .ptr 2 b1 0), (8, .ptr 8 b2 0), (36, .val (.int .u64 ((takeNum (takeNum s).2.1).1 : Int))), (37, .val (.int .u64 0)), (5, aS ((takeNum (takeNum s).2.1).2.1))], [(2, .box b1 24 [aN, aI 0]), (8, .box b2 24 [.rw 100 (.slice none 0 0) 0, aI (unfoldN ((takeNum s).1 : Int))]), (100, .row (.slice none 0 0) 27 5 ([]))]⟩ ⟨Sub.refl _, Sub.refl _, Sub.refl _, Sub.of_eq rfl, Sub.refl _, trivial⟩ ⟨⟨_, rfl, SubB.refl _⟩, ⟨_, rfl, SubB.boxs ⟨Sub.of_eq rfl, Sub.refl _, trivial⟩⟩, ⟨_, rfl, SubB.of_eq rfl⟩, trivial⟩ fun a1 ha1 =>
 (fun (k : Nat) (acc : List Nod) (rest : Txt) (V : Value) (hH1 : TkH s k acc rest) => have hk1 := hH1.1; have hk2 := hH1.2.2.1; .binV .lss 55 (lssN (k := .u64) (a := (k : Int)) (b := ((takeNum (takeNum s).2.1).1 : Int))) <|
 .br 38 (decide ((k : Int) < ((takeNum (takeNum s).2.1).1 : Int))) (fun q4 => have p4 := decT q4; .new fun b3 => .r 1 <| .call (ntake_spec rest (by have := hH1.2.2.2.1; omega)) <|
 .run 7 [b3 = b3] ⟨rfl, trivial⟩ <|
 .r 2 <| .br 46 (((takeNode rest).2.2) != 0) (fun q5 => have p5 := bneT q5; .run 4 [b1 = b1] ⟨rfl, trivial⟩ <|
 .fin (x := .tup [.agg [aN, aI 0], aI ((takeNode rest).2.2)]) (r := .tup [.agg (fsyA (takeF s).1), aI (takeF s).2]) [b1 = b1] ⟨rfl, trivial⟩ (by
    rw [takeF_4 (by omega) (by omega) (by omega) (tk_bad hH1 (by omega) (by omega)) (by omega)]
    exact Sub.tups ⟨fs0_sub, Sub.refl _, trivial⟩))
 <| fun q5 => have p5 := bneF q5; .run 4 [b2 = b2, b3 = b3] ⟨rfl, rfl, trivial⟩ <|
 .app 64 V (acc.map nodA) ([[aI ((nodO (takeNode rest).1).ino), aI ((nodO (takeNode rest).1).kind), aI ((nodO (takeNode rest).1).links), aS ((nodO (takeNode rest).1).text), .sl 2 false ((nodO (takeNode rest).1).l.map entA)]]) (by simp only [List.length_map, List.length_cons, List.length_nil]; omega) (by simp only [List.length_map, List.length_cons, List.length_nil]; omega) fun V1 =>
 .run 2 [b2 = b2] ⟨rfl, trivial⟩ <|
 .binV .add 55 (addU (a := (k : Int)) (b := 1) (by omega) (by omega)) <|
 .r 1 <| .back L1 (k, acc, rest, V) ((k + 1), (acc ++ [nodO (takeNode rest).1]), (takeNode rest).2.1, V1) (show TkH s (k + 1) (acc ++ [nodO (takeNode rest).1]) ((takeNode rest).2.1) from (tk_step hH1 (by omega) (by omega))) (show (takeNum (takeNum s).2.1).1 - (k + 1) < (takeNum (takeNum s).2.1).1 - k from (by omega)) ⟨[(2, .ptr 2 b1 0), (8, .ptr 8 b2 0), (36, .val (.int .u64 ((takeNum (takeNum s).2.1).1 : Int))), (37, .val (.int .u64 ((k : Int) + 1))), (5, aS ((takeNode rest).2.1))], [(2, .box b1 24 [aN, aI 0]), (8, .box b2 24 [.rw 100 V1 ((acc.map nodA).length + ([[aI ((nodO (takeNode rest).1).ino), aI ((nodO (takeNode rest).1).kind), aI ((nodO (takeNode rest).1).links), aS ((nodO (takeNode rest).1).text), .sl 2 false ((nodO (takeNode rest).1).l.map entA)]] : List (List AV)).length), aI (unfoldN ((takeNum s).1 : Int))]), (100, .row V1 27 5 ((acc.map nodA) ++ ([[aI ((nodO (takeNode rest).1).ino), aI ((nodO (takeNode rest).1).kind), aI ((nodO (takeNode rest).1).links), aS ((nodO (takeNode rest).1).text), .sl 2 false ((nodO (takeNode rest).1).l.map entA)]])))]⟩ ⟨Sub.refl _, Sub.refl _, Sub.refl _, Sub.of_eq (congrArg (fun z => AV.val (.int .u64 z)) (by omega)), Sub.refl _, trivial⟩ ⟨⟨_, rfl, SubB.refl _⟩, ⟨_, rfl, SubB.boxs ⟨Sub.of_eq (congrArg (AV.rw 100 V1) (by simp)), Sub.refl _, trivial⟩⟩, ⟨_, rfl, SubB.of_eq (by simp [nodA])⟩, trivial⟩)
 <| fun q4 => have p4 := decF q4; .frz 100 [2, 5, 8, 38] [2, 8] [V = V, acc.length = (acc.map nodA).length] ⟨rfl, (by first | rfl | (simp; done) | (simp; omega)), trivial⟩ <|
 .run 1 [b2 = b2] ⟨rfl, trivial⟩ <|
 .call (rows_spec (⟨acc, unfoldN ((takeNum s).1 : Int)⟩ : Fsy) (tkF_ok hH1 (by omega))) <|
 .r 2 <| .br 59 (!(dP (rowsP (⟨acc, unfoldN ((takeNum s).1 : Int)⟩ : Fsy)))) (fun q6 => have q6 := notT q6; have p6 := booF q6; .r 3 <| .run 3 [b1 = b1] ⟨rfl, trivial⟩ <|
 .fin (x := .tup [.agg [aN, aI 0], aI 3]) (r := .tup [.agg (fsyA (takeF s).1), aI (takeF s).2]) [b1 = b1] ⟨rfl, trivial⟩ (by
    rw [takeF_5 (by omega) (by omega) (by omega) (tk_end hH1 (by omega))]
    rw [endF_no (fun h => by first | exact dP_false.1 (by assumption) h.1 | (have := h.2; simp_all))]
    exact Sub.tups ⟨fs0_sub, Sub.refl _, trivial⟩))
 <| fun q6 => have q6 := notF q6; have p6 := booT q6; .r 3 <| .br 62 (!(rest == ([]))) (fun q7 => have q7 := notT q7; have p7 := beqF q7; .run 3 [b1 = b1] ⟨rfl, trivial⟩ <|
 .fin (x := .tup [.agg [aN, aI 0], aI 3]) (r := .tup [.agg (fsyA (takeF s).1), aI (takeF s).2]) [b1 = b1] ⟨rfl, trivial⟩ (by
    rw [takeF_5 (by omega) (by omega) (by omega) (tk_end hH1 (by omega))]
    rw [endF_no (fun h => by first | exact dP_false.1 (by assumption) h.1 | (have := h.2; simp_all))]
    exact Sub.tups ⟨fs0_sub, Sub.refl _, trivial⟩))
 <| fun q7 => have q7 := notF q7; have p7 := beqT q7; .run 3 [b2 = b2, b1 = b1] ⟨rfl, rfl, trivial⟩ <|
 .fin (x := .tup [.agg [.sl 5 false (acc.map nodA), aI (unfoldN ((takeNum s).1 : Int))], aI 0]) (r := .tup [.agg (fsyA (takeF s).1), aI (takeF s).2]) [b1 = b1] ⟨rfl, trivial⟩ (by
    rw [takeF_5 (by omega) (by omega) (by omega) (tk_end hH1 (by omega))]
    rw [endF_yes (dP_true.1 (by assumption)) (by simp_all)]
    exact Sub.tups ⟨Sub.refl _, Sub.refl _, trivial⟩)) a1.1 a1.2.1 a1.2.2.1 a1.2.2.2 ha1) Try.func10 rfl (by kernel_rfl) (by kernel_rfl)
end Go.Proofs.Ytgcjfhgkkgocpaa
