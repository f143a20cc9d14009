/- table.Take: it answers as the document says, for every text; old memory is as it was. -/
import Derived.Test.YthnajmfbomedlaaTabRow
import Derived.Test.YthnajmfbomedlaaTabRgt2
set_option linter.unusedVariables false
set_option linter.unusedSimpArgs false
namespace Go.Proofs.Ythnajmfbomedlaa
open Go.RowKit Copyhold

/-- a row whose decisions lie in a row of the call's own -/
def RowQ (w : World) (base : Nat) (r : TRow) (cs : List Value) : Prop :=
  ∃ A c, cs = [.int .i64 r.client, .int .i64 r.epoch, .int .i64 r.done, .slice A r.l.length c] ∧ w.ownsRow base 65 2 (.slice A r.l.length c) r.l.length (r.l.flatMap decC) ∧ RowT r
/-- rows in a row of the call's own -/
def OwnT (w : World) (base : Nat) (sl : Value) (xs : List TRow) : Prop := ∃ css, Fit (RowQ w base) 4 css xs ∧ w.ownsRow base 63 4 sl xs.length css.flatten
theorem OwnT.nil (w : World) (base : Nat) : OwnT w base (.slice none 0 0) [] := ⟨[], ⟨rfl, fun i cs a hc _ => by simp at hc⟩, World.ownsRow_nil _ _ _ _⟩
theorem OwnT.is {w : World} {base : Nat} {sl : Value} {xs : List TRow} (h : OwnT w base sl xs) : ∃ A c, sl = .slice A xs.length c := by
  obtain ⟨css, h1, h2⟩ := h
  obtain ⟨A, c, e, _⟩ := (Sl.of_owns h2).shape
  exact ⟨A, c, e⟩
theorem RowQ.r {w : World} {base : Nat} {r : TRow} {cs : List Value} (h : RowQ w base r cs) : RowR w r cs := by
  obtain ⟨A, c, e, ho, h1, h2, h3, h4, h5⟩ := h
  refine ⟨_, e, ?_, by omega, h1, h2, h3⟩
  refine (decs_fit r.l h5).slOf ?_
  rw [← List.flatMap_def]
  exact Sl.of_owns ho
theorem OwnT.rows {w : World} {base : Nat} {sl : Value} {xs : List TRow} (h : OwnT w base sl xs) : RowsIn w sl xs := by
  obtain ⟨css, h1, h2⟩ := h
  exact (h1.mono fun a cs hr => hr.r).slOf (Sl.of_owns h2)
theorem owns_kept {w w' : World} {base : Nat} {t : TypeId} {k : Nat} {v : Value} {n : Nat} {xs : List Value} (h : w.ownsRow base t k v n xs) (hk : ∀ g cur, v.ownBlock = some g → w.heap[g]? = some (.cells cur t (0, 0)) → w'.heap[g]? = w.heap[g]?) : w'.ownsRow base t k v n xs := by
  refine ⟨h.1, ?_⟩
  rcases h.2 with h' | ⟨g, cap, cur, rfl, hg, hgg, r⟩
  · exact .inl h'
  · exact .inr ⟨g, cap, cur, rfl, hg, by rw [hk g cur rfl hgg]; exact hgg, r⟩
theorem owns_at {w : World} {base : Nat} {t : TypeId} {k : Nat} {v : Value} {n : Nat} {xs : List Value} (h : w.ownsRow base t k v n xs) (g : Nat) (hg : v.ownBlock = some g) : ∃ cur, w.heap[g]? = some (.cells cur t (0, 0)) := by
  rcases h.2 with ⟨rfl, _⟩ | ⟨g', cap, cur, rfl, _, hgg, _⟩
  · simp [Value.ownBlock] at hg
  · have : g' = g := by simpa [Value.ownBlock] using hg
    subst this
    exact ⟨cur, hgg⟩
theorem OwnT.tkw {w w' : World} {base B : Nat} {T : TypeId} {cs : Array Value} {sl : Value} {xs : List TRow} (h : OwnT w base sl xs) (hk : TkW w B T cs w') (hB : B < base) : OwnT w' base sl xs := by
  obtain ⟨css, h1, h2⟩ := h
  exact ⟨css, h1.mono fun a cs ⟨A, c, e, ho, hr⟩ => ⟨A, c, e, hk.owns ho hB, hr⟩, hk.owns h2 hB⟩
theorem OwnT.below {w w' : World} {base : Nat} {sl : Value} {xs : List TRow} (h : OwnT w base sl xs) (hb : Below w.heap.size w w') : OwnT w' base sl xs := by
  obtain ⟨css, h1, h2⟩ := h
  exact ⟨css, h1.mono fun a cs ⟨A, c, e, ho, hr⟩ => ⟨A, c, e, owns_below ho hb, hr⟩, owns_below h2 hb⟩
theorem OwnT.push {w3 : World} {base : Nat} {sv : Value} {xs : List TRow} (h : OwnT w3 base sv xs) (hx : xs.length ≤ 1000000) (r : TRow) (A : Option Addr) (c : Nat) (ho : w3.ownsRow base 65 2 (.slice A r.l.length c) r.l.length (r.l.flatMap decC)) (hr : RowT r) (hbase : base ≤ w3.heap.size) :
    ∃ v' w4, (Builtin.append_ #[22, 22] 22 #[sv, .slice (some ⟨w3.heap.size, 0, none⟩) 1 1]).run Try.prog (w3.alloc (.cells #[.int .i64 r.client, .int .i64 r.epoch, .int .i64 r.done, .slice A r.l.length c] 63)) = .ok v' w4 ∧ OwnT w4 base v' (xs ++ [r]) ∧
      (∀ b, b < base → w4.heap[b]? = w3.heap[b]?) ∧ w3.heap.size ≤ w4.heap.size ∧ (∀ (B : Nat) (a : World), Below B a w3 → B ≤ base → Below B a w4) := by
  obtain ⟨css, hf, hw⟩ := h
  have hsl : Sl (w3.alloc (.cells #[.int .i64 r.client, .int .i64 r.epoch, .int .i64 r.done, .slice A r.l.length c] 63)) 4 (.slice (some ⟨w3.heap.size, 0, none⟩) 1 1) 1 [.int .i64 r.client, .int .i64 r.epoch, .int .i64 r.done, .slice A r.l.length c] := sl_one (w := w3) (t := 63) [.int .i64 r.client, .int .i64 r.epoch, .int .i64 r.done, .slice A r.l.length c]
  obtain ⟨v', w4, hrun, h1, h2, _⟩ := append_sl rowElem _ base 22 sv xs.length _ (hw.alloc _) _ 1 _ hsl (fun u hu => by simp at hu; rcases hu with rfl | rfl | rfl | rfl <;> rfl) (by unfold maxLen; omega) (by omega) (by simp; omega)
  have hkeep : ∀ (v : Value) (n : Nat) (ys : List Value), w3.ownsRow base 65 2 v n ys → w4.ownsRow base 65 2 v n ys := by
    intro v n ys hd
    refine owns_kept hd fun g cur hg hgg => ?_
    have hlt : g < w3.heap.size := (Array.getElem?_eq_some_iff.1 hgg).1
    rw [h2.block g (by simp; omega) (fun e => ?_), heap_alloc_old _ _ hlt]
    obtain ⟨cur', hc⟩ := owns_at hw g e.symm
    rw [hgg] at hc
    simp at hc
  refine ⟨v', w4, hrun, ⟨css ++ [[.int .i64 r.client, .int .i64 r.epoch, .int .i64 r.done, .slice A r.l.length c]], ?_, ?_⟩, fun b hb => ?_, ?_, fun B a hb hB => ?_⟩
  · refine (hf.mono fun a cs ⟨A', c', e, ho', hr'⟩ => ⟨A', c', e, hkeep _ _ _ ho', hr'⟩).append (Fit.one rfl ⟨A, c, rfl, hkeep _ _ _ ho, hr⟩)
  · rw [List.length_append, List.flatten_append]
    simpa using h1
  · rw [h2.block b (by simp; omega) (fun e => by have := (own_block_ge hw b e.symm).1; omega)]
    exact heap_alloc_old _ _ (by omega)
  · have := h2.size
    simp at this
    omega
  · exact (hb.alloc (Nat.le_trans hB hbase) _).grown h2 (by simp; omega) (fun g hg => Nat.le_trans hB (own_block_ge hw g hg).1)

/-- rows that are handed back, with an error -/
def RetTake (w : World) (x : List TRow × Int) (e : Ending) (w' : World) : Prop := ∃ A c, e = .returned (.tuple #[.slice A x.1.length c, .int .i64 x.2]) ∧ RowsIn w' (.slice A x.1.length c) x.1 ∧ Below w.heap.size w w'
theorem rowsIn_nil (w : World) : RowsIn w (.slice none 0 0) [] := (OwnT.nil w 0).rows

set_option maxRecDepth 100000 in
set_option maxHeartbeats 16000000 in
theorem table_Take (l : List UInt8) (w : World) (hl : l.length ≤ 140737488355328) :
    Calls Try.prog 22 #[.string ⟨l.toArray⟩] w (RetTake w (takeT l)) := by
  have hT := allSt_take l
  have hb4 := cntSt_bd l 0 64
  have hall : allSt l = rowsSt (cntSt l 0 64).1.toNat [] false (cntSt l 0 64).2.1 (cntSt l 0 64).2.2 := rfl
  have hok := rowsSt_ok (cntSt l 0 64).1.toNat [] false (cntSt l 0 64).2.1 (cntSt l 0 64).2.2 (fun r hr => by cases hr)
  rw [← hall] at hok
  obtain ⟨W0, hW0⟩ : ∃ W0, W0 = w.alloc (.cells (bxT l 0 false) 82) := ⟨_, rfl⟩
  have hb0 : Below w.heap.size w W0 := by rw [hW0]; exact (Below.refl _ _).alloc (Nat.le_refl _) _
  have t0 : TBox W0 w.heap.size 82 (bxT l 0 false) := by rw [hW0]; exact TBox.new _ _ _
  have HC := Lib.hid (taking_take l 0 false 64 w.heap.size _ W0 t0 hl (by decide) (by decide))
  generalize cntSt l 0 64 = y at *
  obtain ⟨z, s4, e4⟩ := y
  simp only at hb4 hall hok HC
  obtain ⟨⟨z1, z2⟩, l4, z3⟩ := hb4
  obtain ⟨m, rfl⟩ : ∃ m : Nat, z = (m : Int) := ⟨z.toNat, by omega⟩
  rw [Int.toNat_natCast] at hall hok
  have hm : m ≤ 64 := by have := z3 (by decide); omega
  generalize allSt l = X at *
  have HTT := Lib.hid hT
  have HALL := Lib.hid hall
  have HOK := Lib.hid hok
  have HB0 := Lib.hid hb0
  have HW := Lib.hid hW0
  have hl4 : s4.length ≤ 140737488355328 := by omega
  have hs0 : w.heap.size < W0.heap.size := t0.lt
  unfold bxT at hW0
  have HW' := Lib.hid hW0
  clear hT hall hok hb0 t0 hW0 z1 z2 z3 l4
  go_enter Try.func22, Try.ntmps22
  go_wp2_with fail
  rw [← HW'.out]
  refine HC.out.mono ?_
  rintro e w1 ⟨rfl, hk1⟩
  have HK1 := Lib.hid (And.intro hk1.1 (hk1.2.2.2 _ _ HB0.out (Nat.le_refl _) (Nat.le_of_lt hs0)))
  clear hk1
  go_wp2_with fail
  go_loopw [5, 9] (fun sl si wr => ∃ (k : Nat) (acc : List TRow) (o1 : Bool) (t : List UInt8) (er : Int), si = .int .u64 k ∧ k ≤ m ∧ acc.length = k ∧ rowsSt (m - k) acc o1 t er = X ∧ t.length ≤ 140737488355328 ∧ OwnT wr (w.heap.size + 1) sl acc ∧ TBox wr w.heap.size 82 (bxT t er o1) ∧ Below w.heap.size w wr) (fun _ si _ => m - (intOf si).toNat)
  case atStart => exact ⟨0, [], false, s4, e4, rfl, Nat.zero_le _, rfl, HALL.out.symm, hl4, OwnT.nil _ _, HK1.out.1, HK1.out.2⟩
  case round =>
    obtain ⟨k, acc, o1, t, er, rfl, hk, hacc, hst, hlt, hown, ht, hb⟩ := hrel
    obtain ⟨A5, c5, rfl⟩ := hown.is
    have HX := Lib.hid (And.intro hown (And.intro ht hb))
    have HST := Lib.hid hst
    have HACC := Lib.hid hacc
    have hsw : w.heap.size < wr.heap.size := ht.lt
    clear hown ht hb hst hacc
    by_cases hkm : k < m
    · have hki : (k : Int) < (m : Int) := by omega
      have hun : rowsSt (m - k) acc o1 t er = rowsSt (m - (k + 1)) (acc ++ [(rowSt t er o1).1]) (rowSt t er o1).2.1 (rowSt t er o1).2.2.1 (rowSt t er o1).2.2.2 := by
        rw [show m - k = (m - (k + 1)) + 1 by omega]
        rfl
      rw [hun] at HST
      have hbd := rowSt_bd t er o1
      have HD := Lib.hid (taking_row t er o1 w.heap.size _ wr HX.out.2.1 hlt)
      clear hun
      generalize rowSt t er o1 = y at *
      obtain ⟨r, o2, t2, er2⟩ := y
      simp only at HST HD hbd
      have HRT := Lib.hid hbd.1
      have hlt2 : t2.length ≤ 140737488355328 := by omega
      have hal : acc.length ≤ 1000000 := by rw [HACC.out]; omega
      clear hbd
      go_wp2_with fail
      refine HD.out.mono ?_
      rintro e w5 ⟨A7, c7, rfl, ho7, hk7⟩
      simp only at ho7 hk7
      obtain ⟨v', w6, hrun, hO6, hk6, hs6, hb6⟩ := (HX.out.1.tkw hk7 (by omega)).push hal r A7 c7 (owns_less ho7 (by omega)) HRT.out (by have := hk7.2.2.1; omega)
      have HZ := Lib.hid (show OwnT w6 (w.heap.size + 1) v' (acc ++ [r]) ∧ TBox w6 w.heap.size 82 (bxT t2 er2 o2) ∧ Below w.heap.size w w6 from by
        refine ⟨hO6, ?_, hb6 _ _ (hk7.2.2.2 _ _ HX.out.2.2 (Nat.le_refl _) (by omega)) (by omega)⟩
        have := hk7.1
        unfold TBox at this ⊢
        rw [hk6 _ (by omega)]
        exact this)
      clear ho7 hk7 hO6 hk6 hs6 hb6
      go_wp2_with (at_builtin; refine wpList_append_run rfl _ _ _ rfl _ _ _ _ rfl rfl hrun ?_)
      go_roundw
      case rel => exact ⟨k + 1, acc ++ [r], o2, t2, er2, by go_num, by omega, by rw [List.length_append, HACC.out]; rfl, HST.out, hlt2, HZ.out⟩
      case measure => simp [intOf]; omega
    · obtain rfl : k = m := by omega
      have hfin := HST.out
      rw [Nat.sub_self] at hfin
      unfold rowsSt at hfin
      subst hfin
      simp only at HTT HOK
      have hki : ¬ (k : Int) < (k : Int) := by omega
      have p0 : wr.cell? ⟨w.heap.size, 0, none⟩ = some (.string ⟨t.toArray⟩) := HX.out.2.1.cell 0
      have p1 : wr.cell? ⟨w.heap.size, 1, none⟩ = some (.int .i64 er) := HX.out.2.1.cell 1
      have p2 : wr.cell? ⟨w.heap.size, 2, none⟩ = some (.bool o1) := HX.out.2.1.cell 2
      by_cases he : er ≠ 0
      · have hne : (er == 0) = false := by simpa using he
        have hne2 : (er != 0) = true := by simpa using he
        have HF := Lib.hid (show takeT l = ([], er) from by rw [HTT.out, if_pos he])
        clear he
        go_wp2_with fail
        go_quiet (fail)
        go_wp2_with fail
        go_ret2
        exact ⟨none, 0, by rw [HF.out]; rfl, by rw [HF.out]; exact rowsIn_nil _, below_dn HX.out.2.2 _⟩
      · have he0 : er = 0 := by simpa using he
        subst he0
        rw [if_neg he] at HTT
        clear he
        have HGB := Lib.hid (HX.out.1.rows)
        have hal : acc.length ≤ 64 := by rw [HACC.out]; omega
        have HRR := Lib.hid (table_Right acc _ wr HGB.out (by omega) (fun r hr => by have := (HOK.out.1 r hr).2.2.2.1; omega))
        by_cases ho : o1 = true
        · subst ho
          have HF := Lib.hid (show takeT l = ([], 3) from by rw [HTT.out, if_pos (.inl rfl)])
          go_wp2_with fail
          go_ret2
          exact ⟨none, 0, by rw [HF.out]; rfl, by rw [HF.out]; exact rowsIn_nil _, HX.out.2.2⟩
        · obtain rfl : o1 = false := by simpa using ho
          cases t with
          | cons x tl =>
            have HF := Lib.hid (show takeT l = ([], 3) from by rw [HTT.out, if_pos (.inr (.inl (by simp)))])
            have s1 : ((⟨(x :: tl).toArray⟩ : ByteArray) == ⟨#[]⟩) = false := by rfl
            have s2 : ((⟨(x :: tl).toArray⟩ : ByteArray) != ⟨#[]⟩) = true := by simp [bne, s1]
            go_wp2_with fail
            go_ret2
            exact ⟨none, 0, by rw [HF.out]; rfl, by rw [HF.out]; exact rowsIn_nil _, HX.out.2.2⟩
          | nil =>
            by_cases hg : goodB acc = true
            · rw [hg] at HRR
              have HF := Lib.hid (show takeT l = (acc, 0) from by rw [HTT.out, if_neg (by simp [hg])])
              go_wp2_with fail
              refine HRR.out.mono ?_
              rintro e w5 ⟨rfl, hb5⟩
              have HB5 := Lib.hid (And.intro (HGB.out.below hb5) (below_trans HX.out.2.2 hb5 HX.out.2.2.size))
              clear hb5
              go_wp2_with fail
              go_ret2
              exact ⟨A5, c5, by rw [HF.out]; rfl, by rw [HF.out]; exact HB5.out.1, HB5.out.2⟩
            · have hg' : goodB acc = false := by simpa using hg
              rw [hg'] at HRR
              have HF := Lib.hid (show takeT l = ([], 3) from by rw [HTT.out, if_pos (.inr (.inr hg'))])
              go_wp2_with fail
              refine HRR.out.mono ?_
              rintro e w5 ⟨rfl, hb5⟩
              have HB5 := Lib.hid (below_trans HX.out.2.2 hb5 HX.out.2.2.size)
              clear hb5
              go_wp2_with fail
              go_ret2
              exact ⟨none, 0, by rw [HF.out]; rfl, by rw [HF.out]; exact rowsIn_nil _, HB5.out⟩
end Go.Proofs.Ythnajmfbomedlaa
