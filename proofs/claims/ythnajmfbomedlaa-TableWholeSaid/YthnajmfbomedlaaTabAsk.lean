/- table.own as one, table.Ask: they answer as the document says; old memory is as it was. -/
import Derived.Test.YthnajmfbomedlaaTabOk
set_option linter.unusedVariables false
namespace Go.Proofs.Ythnajmfbomedlaa
open Go.RowKit Copyhold

/-- a client's row of an epoch, or why there is none -/
def ownF (rs : List TRow) (n ep sq : Int) : Option TRow × Int :=
  if n < 0 ∨ ep < 1 ∨ sq < 1 then (none, 1)
  else if (placeN (rs.map (·.client)) n).2 = false then (none, 6)
  else match rs[(placeN (rs.map (·.client)) n).1]? with
    | none => (none, 6)
    | some r => if ep < r.epoch then (none, 17) else if r.epoch < ep then (none, 6) else (some r, 0)

def OwnR (w : World) (o : Option TRow × Int) (e : Ending) (w' : World) : Prop :=
  match o.1 with
  | none => OwnNo w o.2 e w'
  | some r => OwnIs w r e w'

theorem table_own (rs : List TRow) (v : Value) (n ep sq : Int) (w : World) (hr : RowsIn w v rs) (hn : rs.length ≤ 8796093022207) (n1 : -9223372036854775808 ≤ n) (n2 : n ≤ 9223372036854775807)
    (e1 : -9223372036854775808 ≤ ep) (e2 : ep ≤ 9223372036854775807) (s1 : -9223372036854775808 ≤ sq) (s2 : sq ≤ 9223372036854775807) :
    Calls Try.prog 27 #[v, .int .i64 n, .int .i64 ep, .int .i64 sq] w (OwnR w (ownF rs n ep sq)) := by
  obtain ⟨A, c, rfl⟩ := SlOf.shape hr
  by_cases h : n < 0 ∨ ep < 1 ∨ sq < 1
  · rw [ownF, if_pos h]
    rcases (show n < 0 ∨ 0 ≤ n ∧ ep < 1 ∨ 0 ≤ n ∧ 1 ≤ ep ∧ sq < 1 from by omega) with h | ⟨h, h'⟩ | ⟨h, h', h''⟩
    · exact own_arg1 rs A c n ep sq w hr hn n1 n2 e1 e2 s1 s2 h
    · exact own_arg2 rs A c n ep sq w hr hn n1 n2 e1 e2 s1 s2 h h'
    · exact own_arg3 rs A c n ep sq w hr hn n1 n2 e1 e2 s1 s2 h h' h''
  · rw [ownF, if_neg h]
    have g1 : 0 ≤ n := by omega
    have g2 : 1 ≤ ep := by omega
    have g3 : 1 ≤ sq := by omega
    obtain ⟨i, t, hp⟩ : ∃ i t, placeN (rs.map (·.client)) n = (i, t) := ⟨_, _, rfl⟩
    rw [hp]
    cases t
    · exact own_none rs A c n ep sq w hr hn n1 n2 e1 e2 s1 s2 g1 g2 g3 i (Lib.hid hp)
    · obtain ⟨hil, _⟩ := placeN_true _ _ hp
      rw [List.length_map] at hil
      simp only [Bool.true_eq_false, if_false]
      rw [List.getElem?_eq_getElem hil]
      simp only
      by_cases h1 : ep < rs[i].epoch
      · rw [if_pos h1]
        exact own_stale rs A c n ep sq w hr hn n1 n2 e1 e2 s1 s2 g1 g2 g3 i (Lib.hid hp) rs[i].epoch (Lib.hid (by rw [List.getElem?_eq_getElem hil]; rfl)) h1
      · rw [if_neg h1]
        by_cases h2 : rs[i].epoch < ep
        · rw [if_pos h2]
          exact own_old rs A c n ep sq w hr hn n1 n2 e1 e2 s1 s2 g1 g2 g3 i (Lib.hid hp) rs[i].epoch (Lib.hid (by rw [List.getElem?_eq_getElem hil]; rfl)) h2
        · rw [if_neg h2]
          exact own_ok rs A c n ep sq w hr hn n1 n2 g1 g2 g3 e2 s2 i hp rs[i] (List.getElem?_eq_getElem hil) (by omega)

/-- what was decided -/
def askF (rs : List TRow) (n ep sq : Int) : Bool × Int :=
  match (ownF rs n ep sq).1 with
  | none => (false, (ownF rs n ep sq).2)
  | some r => if sq ≤ r.done then (false, 18) else if (placeN (r.l.map (·.1)) sq).2 then (((r.l[(placeN (r.l.map (·.1)) sq).1]?).map (·.2)).getD false, 0) else (false, 6)

theorem own_err (rs : List TRow) (n ep sq : Int) (h : (ownF rs n ep sq).1 = none) : (ownF rs n ep sq).2 = 1 ∨ (ownF rs n ep sq).2 = 6 ∨ (ownF rs n ep sq).2 = 17 := by
  unfold ownF at h ⊢
  split
  · exact .inl rfl
  · rename_i h0
    rw [if_neg h0] at h
    split
    · exact .inr (.inl rfl)
    · rename_i h1
      rw [if_neg h1] at h
      cases hg : rs[(placeN (rs.map (·.client)) n).1]? with
      | none => exact .inr (.inl rfl)
      | some r =>
        rw [hg] at h
        simp only at h ⊢
        split
        · exact .inr (.inr rfl)
        · rename_i h2
          rw [if_neg h2] at h
          split
          · exact .inr (.inl rfl)
          · rename_i h3
            rw [if_neg h3] at h
            cases h
theorem own_mem {rs : List TRow} {n ep sq : Int} {r : TRow} (h : (ownF rs n ep sq).1 = some r) : r ∈ rs := by
  unfold ownF at h
  split at h
  · cases h
  · split at h
    · cases h
    · split at h
      · cases h
      · rename_i r' hg
        split at h
        · cases h
        · split at h
          · cases h
          · simp only [Option.some.injEq] at h
            subst h
            exact List.mem_of_getElem? hg

theorem rows_bound {w : World} {A : Option Addr} {c : Nat} {rs : List TRow} (h : RowsIn w (.slice A rs.length c) rs) (r : TRow) (hr : r ∈ rs) : r.l.length ≤ 8796093022207 ∧ -9223372036854775808 ≤ r.done ∧ r.done ≤ 9223372036854775807 := by
  obtain ⟨j, hj, rfl⟩ := List.mem_iff_getElem.1 hr
  obtain ⟨_, _, _, _, _, _, _, _, _, _, _, hll, _, _, ⟨z1, z2⟩⟩ := h.at j hj
  exact ⟨hll, z1, z2⟩

set_option maxHeartbeats 4000000 in
theorem table_Ask (rs : List TRow) (v : Value) (n ep sq : Int) (w : World) (hr : RowsIn w v rs) (hn : rs.length ≤ 8796093022207) (n1 : -9223372036854775808 ≤ n) (n2 : n ≤ 9223372036854775807)
    (e1 : -9223372036854775808 ≤ ep) (e2 : ep ≤ 9223372036854775807) (s1 : -9223372036854775808 ≤ sq) (s2 : sq ≤ 9223372036854775807) :
    Calls Try.prog 14 #[v, .int .i64 n, .int .i64 ep, .int .i64 sq] w fun e w' => e = .returned (.tuple #[.bool (askF rs n ep sq).1, .int .i64 (askF rs n ep sq).2]) ∧ Below w.heap.size w w' := by
  have HO := Lib.hid (table_own rs v n ep sq w hr hn n1 n2 e1 e2 s1 s2)
  obtain ⟨A, c, rfl⟩ := SlOf.shape hr
  have herr := own_err rs n ep sq
  have hmem := fun r => own_mem (rs := rs) (n := n) (ep := ep) (sq := sq) (r := r)
  have haf : askF rs n ep sq = match (ownF rs n ep sq).1 with
    | none => (false, (ownF rs n ep sq).2)
    | some r => if sq ≤ r.done then (false, 18) else if (placeN (r.l.map (·.1)) sq).2 then (((r.l[(placeN (r.l.map (·.1)) sq).1]?).map (·.2)).getD false, 0) else (false, 6) := rfl
  generalize askF rs n ep sq = q at *
  generalize ownF rs n ep sq = o at *
  obtain ⟨o1, o2⟩ := o
  cases o1 with
  | none =>
    simp only at haf herr
    have her := herr trivial
    have HQ := Lib.hid haf
    have hne : (o2 == 0) = false := by rw [beq_eq_false_iff_ne]; omega
    clear haf herr her hmem hr
    go_enter Try.func14, Try.ntmps14
    go_wp2_with fail
    refine HO.out.mono ?_
    rintro e w1 ⟨rfl, hb1⟩
    have HB1 := Lib.hid hb1
    clear hb1
    go_wp2_with fail
    go_ret2
    exact ⟨by rw [HQ.out]; rfl, HB1.out.alloc HB1.out.size _⟩
  | some r =>
    simp only at haf
    obtain ⟨hll, z1, z2⟩ := rows_bound hr r (hmem r rfl)
    clear hmem herr hr
    by_cases hd : sq ≤ r.done
    · rw [if_pos hd] at haf
      have HQ := Lib.hid haf
      have hdd : decide (sq ≤ r.done) = true := by simpa using hd
      clear haf
      go_enter Try.func14, Try.ntmps14
      go_wp2_with fail
      refine HO.out.mono ?_
      rintro e w1 ⟨v1, rfl, ⟨A1, c1, rfl, hs1⟩, hb1⟩
      have HB1 := Lib.hid hb1
      clear hb1 hs1
      go_wp2_with fail
      go_ret2
      exact ⟨by rw [HQ.out]; rfl, HB1.out.alloc HB1.out.size _⟩
    · rw [if_neg hd] at haf
      have hdd : decide (sq ≤ r.done) = false := by simpa using hd
      obtain ⟨j, t, hp⟩ : ∃ j t, placeN (r.l.map (·.1)) sq = (j, t) := ⟨_, _, rfl⟩
      rw [hp] at haf
      have HP := Lib.hid hp
      have HT := Lib.hid (fun (h : t = true) => placeN_true (r.l.map (·.1)) sq (i := j) (by rw [hp, h]))
      have HQ := Lib.hid haf
      clear haf hp
      go_enter Try.func14, Try.ntmps14
      go_wp2_with fail
      refine HO.out.mono ?_
      rintro e w1 ⟨v1, rfl, ⟨A1, c1, rfl, hs1⟩, hb1⟩
      have HB1 := Lib.hid (hb1.alloc hb1.size (.cells #[.int .i64 r.client, .int .i64 r.epoch, .int .i64 r.done, .slice A1 r.l.length c1] 63))
      obtain ⟨W2, hW2⟩ : ∃ W2, W2 = w1.alloc (.cells #[.int .i64 r.client, .int .i64 r.epoch, .int .i64 r.done, .slice A1 r.l.length c1] 63) := ⟨_, rfl⟩
      have b12 : Below w1.heap.size w1 W2 := by rw [hW2]; exact (Below.refl _ _).alloc (Nat.le_refl _) _
      have q3 : W2.cell? ⟨w1.heap.size, 3, none⟩ = some (.slice A1 r.l.length c1) := by rw [hW2]; exact cell_new _ _ _ 3
      have HS2 := Lib.hid (hs1.below b12)
      have HC := Lib.hid (table_seqOf r.l A1 c1 sq W2 (hs1.below b12) hll s1 s2)
      rw [HP.out] at HC
      have HW2 := Lib.hid hW2
      have HBB : Hid (Below w.heap.size w W2) := Lib.hid (by rw [hW2]; exact HB1.out)
      clear hb1 hs1 hW2 b12
      go_wp2_with fail
      rw [← HW2.out]
      refine HC.out.mono ?_
      rintro e w3 ⟨rfl, hb3⟩
      have HB3 := Lib.hid (below_trans HBB.out hb3 HBB.out.size)
      have q3' := cell_keep hb3 q3
      have HS3 := Lib.hid (HS2.out.below hb3)
      clear hb3 q3
      cases t
      · go_wp2_with fail
        go_ret2
        exact ⟨by rw [HQ.out]; rfl, HB3.out⟩
      · obtain ⟨hjl, _⟩ := HT.out rfl
        rw [List.length_map] at hjl
        obtain ⟨b, off, cs, rfl, hbk, hcl, ⟨hcs, _⟩, hcc⟩ := SlOf.at HS3.out j (List.getElem?_eq_getElem hjl)
        subst hcs
        have k1 : w3.cell? ⟨b, off + j * 2 + 1, none⟩ = some (.bool r.l[j].2) := by have := hcc 1 _ rfl; rwa [← Nat.add_assoc] at this
        have hq : q = (r.l[j].2, 0) := by rw [HQ.out, List.getElem?_eq_getElem hjl]; rfl
        have HQ2 := Lib.hid hq
        have hj0 : (0 : Int) ≤ (j : Int) := by omega
        have hj1 : (j : Int) < (r.l.length : Int) := by omega
        clear hq hcc hcl
        generalize r.l[j] = d at *
        go_wp2_with fail
        go_ret2
        exact ⟨by rw [HQ2.out]; rfl, HB3.out⟩
end Go.Proofs.Ythnajmfbomedlaa
