/- table.number, table.Text: they answer as the document says; old memory is as it was. -/
import Derived.Test.YthnajmfbomedlaaTabTxP
import Derived.Test.YthnajmfbomedlaaShelf
import Derived.Test.YthnajmfbomedlaaTaking
import Derived.Deep.RegionHeld3
set_option linter.unusedVariables false
set_option linter.unusedSimpArgs false
namespace Go.Proofs.Ythnajmfbomedlaa
open Go.RowKit Copyhold

theorem textElem : Elem Try.prog 91 9 (.string ByteArray.empty) 1 16 := ⟨Try.underlying91, by kernel_rfl, by kernel_rfl, by decide⟩

theorem join_row (v : Value) (xs : List (List UInt8)) (w : World) (hr : Row w v (xs.map strV)) (h0 : 0 < xs.length) (hn : xs.length ≤ 100000000) (hlen : xs.flatten.length ≤ 140737488355328) :
    Calls Try.prog 46 #[v, .string ⟨#[]⟩] w fun e w' => e = .returned (.string ⟨xs.flatten.toArray⟩) ∧ Below w.heap.size w w' := by
  obtain ⟨A, c, rfl⟩ := hr.shape
  rw [List.length_map] at hr ⊢
  obtain ⟨bk, o, rfl, hbk, hcap, hcl⟩ := hr.at 0 (x := strV xs[0]) (by rw [List.getElem?_map, List.getElem?_eq_getElem h0]; rfl)
  have hj := Try.strings_Join bk o c (xs.map fun l => ⟨l.toArray⟩) ⟨#[]⟩ w (fun j x hx => by
      rw [List.getElem?_map] at hx
      cases hg : xs[j]? with
      | none => rw [hg] at hx; cases hx
      | some y => rw [hg] at hx; cases hx; exact hcl j (strV y) (by rw [List.getElem?_map, hg]; rfl)) hbk (by rw [List.length_map]; omega) (by simpa using hcap)
  have e : Lib.join ((xs.map fun l => (⟨l.toArray⟩ : ByteArray)).map (·.data.toList)) (⟨#[]⟩ : ByteArray).data.toList = xs.flatten := by
    rw [List.map_map]
    show List.intercalate [] _ = _
    rw [intercalate_nil]
    congr 1
    exact List.map_id xs
  rw [e, List.length_map] at hj
  exact hj hlen

set_option maxHeartbeats 2000000 in
theorem table_number (z : Int) (w : World) (h1 : -9223372036854775808 ≤ z) (h2 : z ≤ 9223372036854775807) :
    Calls Try.prog 45 #[.int .i64 z] w fun e w' => e = .returned (.string ⟨(wholeB z).toArray⟩) ∧ Below w.heap.size w w' := by
  obtain ⟨f1, f2⟩ := fold_bd z h1 h2
  have HF := Lib.hid (fun W => octet_Fold z W h1 h2)
  have HD : Hid (wholeB z = numB (foldN z).toNat) := Lib.hid rfl
  generalize foldN z = n at *
  have HN := Lib.hid (fun W => octet_Num n W f1 f2)
  generalize wholeB z = s at *
  go_enter Try.func45, Try.ntmps45
  go_wp2_with fail
  refine (HF.out _).mono ?_
  rintro e w1 ⟨rfl, rfl⟩
  go_wp2_with fail
  refine (HN.out _).mono ?_
  rintro e w2 ⟨rfl, hb2⟩
  rw [← HD.out]
  have HB2 := Lib.hid hb2
  clear hb2
  go_wp2_with fail
  go_ret
  exact ⟨rfl, HB2.out⟩

/-- how many rows and decisions there may be here -/
def Small (rs : List TRow) : Prop := rs.length ≤ 1000 ∧ ∀ r ∈ rs, r.l.length ≤ 1000
/-- the parts of the first k rows; and of the first j decisions of the next -/
def partsK (rs : List TRow) (k : Nat) : List (List UInt8) := numB rs.length :: (rs.take k).flatMap rowP
def partsJ (rs : List TRow) (k : Nat) (r : TRow) (j : Nat) : List (List UInt8) := partsK rs k ++ (headP r ++ (r.l.take j).flatMap decP)
theorem rowP_len (r : TRow) : (rowP r).length = 4 + 2 * r.l.length := by
  unfold rowP headP
  rw [List.length_append]
  have : ∀ l : List (Int × Bool), (l.flatMap decP).length = 2 * l.length := by
    intro l
    induction l with
    | nil => rfl
    | cons x l ih => rw [List.flatMap_cons, List.length_append, ih]; simp [decP]; omega
  rw [this]
  simp
theorem rows_parts (rs : List TRow) (h : ∀ r ∈ rs, r.l.length ≤ 1000) : (rs.flatMap rowP).length ≤ 2004 * rs.length := by
  induction rs with
  | nil => simp
  | cons x l ih =>
    have := ih (fun y hy => h y (List.mem_cons_of_mem _ hy))
    have h2 := h x List.mem_cons_self
    rw [List.flatMap_cons, List.length_append, rowP_len, List.length_cons]
    omega
theorem partsK_len (rs : List TRow) (k : Nat) (h : Small rs) : (partsK rs k).length ≤ 2005000 := by
  have := rows_parts (rs.take k) (fun r hr => h.2 r (List.mem_of_mem_take hr))
  have h1 := h.1
  unfold partsK
  rw [List.length_take] at this
  rw [List.length_cons]
  omega
theorem partsK_step (rs : List TRow) (k : Nat) (hk : k < rs.length) : partsK rs (k + 1) = partsJ rs k rs[k] rs[k].l.length := by
  unfold partsJ partsK
  rw [List.take_succ_eq_append_getElem hk, List.flatMap_append, List.take_length]
  simp [rowP]
theorem partsJ_step (rs : List TRow) (k : Nat) (r : TRow) (j : Nat) (hj : j < r.l.length) : partsJ rs k r (j + 1) = partsJ rs k r j ++ [wholeB r.l[j].1, numB (yesN r.l[j].2)] := by
  unfold partsJ
  rw [List.take_succ_eq_append_getElem hj, List.flatMap_append]
  simp [decP]
theorem partsJ_len (rs : List TRow) (k : Nat) (r : TRow) (j : Nat) (h : Small rs) (hr : r.l.length ≤ 1000) : (partsJ rs k r j).length ≤ 2010000 := by
  have h1 := partsK_len rs k h
  have h2 := rowP_len ⟨r.client, r.epoch, r.done, r.l.take j⟩
  unfold rowP headP at h2
  rw [List.length_append] at h2
  unfold partsJ headP
  rw [List.length_append, List.length_append]
  simp only [List.length_cons, List.length_nil, List.length_take] at h2 ⊢
  omega
theorem partsK_end (rs : List TRow) : partsK rs rs.length = rowsP rs := by unfold partsK rowsP; rw [List.take_length]
theorem parts_size (ps : List (List UInt8)) (h : ∀ p ∈ ps, p.length ≤ 10) : ps.flatten.length ≤ 10 * ps.length := by
  induction ps with
  | nil => simp
  | cons x l ih =>
    have := ih (fun y hy => h y (List.mem_cons_of_mem _ hy))
    have h2 := h x List.mem_cons_self
    rw [List.flatten_cons, List.length_append, List.length_cons]
    omega
theorem rowsP_short (rs : List TRow) (h : Small rs) (ho : ∀ r ∈ rs, i64ok r.client ∧ i64ok r.epoch ∧ i64ok r.done ∧ ∀ d ∈ r.l, i64ok d.1) : ∀ p ∈ rowsP rs, p.length ≤ 10 := by
  intro p hp
  have h1 := h.1
  unfold rowsP at hp
  rcases List.mem_cons.1 hp with rfl | hp
  · exact numB_len10 _ (by omega)
  · obtain ⟨r, hr, hp⟩ := List.mem_flatMap.1 hp
    obtain ⟨o1, o2, o3, o4⟩ := ho r hr
    have h2 := h.2 r hr
    unfold rowP headP at hp
    rcases List.mem_append.1 hp with hp | hp
    · simp only [List.mem_cons, List.not_mem_nil, or_false] at hp
      rcases hp with rfl | rfl | rfl | rfl
      · exact wholeB_len _ o1
      · exact wholeB_len _ o2
      · exact wholeB_len _ o3
      · exact numB_len10 _ (by omega)
    · obtain ⟨d, hd, hp⟩ := List.mem_flatMap.1 hp
      simp only [decP, List.mem_cons, List.not_mem_nil, or_false] at hp
      rcases hp with rfl | rfl
      · exact wholeB_len _ (o4 d hd)
      · exact numB_len10 _ (by unfold yesN; split <;> omega)
/-- rows in memory hold numbers of 64 bits -/
theorem rows_ok4 {w : World} {v : Value} {rs : List TRow} (h : RowsIn w v rs) : ∀ r ∈ rs, i64ok r.client ∧ i64ok r.epoch ∧ i64ok r.done ∧ ∀ d ∈ r.l, i64ok d.1 := by
  obtain ⟨A, c, rfl⟩ := SlOf.shape h
  intro r hr
  obtain ⟨k, hk, rfl⟩ := List.getElem_of_mem hr
  obtain ⟨b, off, A', c', -, -, -, -, -, -, hsl, -, o1, o2, o3⟩ := RowsIn.at h k hk
  exact ⟨o1, o2, o3, decs_ok hsl⟩

theorem slL (w : World) (cs : Array Value) (t : TypeId) : Sl (w.alloc (.cells cs t)) 1 (.slice (some ⟨w.heap.size, 0, none⟩) cs.size cs.size) cs.size cs.toList :=
  ⟨_, cs.size, rfl, Nat.le_refl _, by simp, fun _ => ⟨w.heap.size, 0, rfl, by simp, fun j y hj => by
    rw [Nat.zero_add, cell_new]
    simpa using hj⟩⟩
/-- texts appended to a row of the call's own, behind four calls -/
theorem app4 (a b c d : List UInt8) (w w7 W2 wa wb wc : World) {v : Value} {n : Nat} {xs : List Value} (ho : W2.ownsRow w.heap.size 9 1 v n xs) (h1 : Below W2.heap.size W2 wa) (h2 : Below wa.heap.size wa wb) (h3 : Below wb.heap.size wb wc) (h4 : Below wc.heap.size wc w7) (hb : Below w.heap.size w W2) (hn : n + 4 ≤ 100000000) :
    ∃ v' w', (Builtin.append_ #[91, 91] 91 #[v, .slice (some ⟨w7.heap.size, 0, none⟩) 4 4]).run Try.prog (w7.alloc (.cells #[.string ⟨a.toArray⟩, .string ⟨b.toArray⟩, .string ⟨c.toArray⟩, .string ⟨d.toArray⟩] 9)) = .ok v' w' ∧ w'.ownsRow w.heap.size 9 1 v' (n + 4) (xs ++ [strV a, strV b, strV c, strV d]) ∧
      Below w.heap.size w w' ∧ (∀ k, k < W2.heap.size → v.ownBlock ≠ some k → w'.heap[k]? = W2.heap[k]?) ∧ (∀ k, k < W2.heap.size → v.ownBlock ≠ some k → v'.ownBlock ≠ some k) := by
  have hb7 := below_trans (below_trans (below_trans (below_trans hb h1 hb.size) h2 (Nat.le_trans hb.size h1.size)) h3 (Nat.le_trans hb.size (Nat.le_trans h1.size h2.size))) h4 (Nat.le_trans hb.size (Nat.le_trans h1.size (Nat.le_trans h2.size h3.size)))
  have ho7 := owns_below (owns_below (owns_below (owns_below ho h1) h2) h3) h4
  have hall : Below W2.heap.size W2 w7 := below_trans (below_trans (below_trans h1 h2 h1.size) h3 (Nat.le_trans h1.size h2.size)) h4 (Nat.le_trans h1.size (Nat.le_trans h2.size h3.size))
  obtain ⟨v', w', hrun, r1, r2, r3⟩ := append_sl textElem (w7.alloc (.cells #[.string ⟨a.toArray⟩, .string ⟨b.toArray⟩, .string ⟨c.toArray⟩, .string ⟨d.toArray⟩] 9)) w.heap.size 91 v n xs (ho7.alloc _) _ 4 [.string ⟨a.toArray⟩, .string ⟨b.toArray⟩, .string ⟨c.toArray⟩, .string ⟨d.toArray⟩] (slL w7 #[.string ⟨a.toArray⟩, .string ⟨b.toArray⟩, .string ⟨c.toArray⟩, .string ⟨d.toArray⟩] _) (fun u hu => by simp at hu; rcases hu with rfl | rfl | rfl | rfl <;> rfl) (by unfold maxLen; omega) (by omega) (by have := hb7.size; simp; omega)
  refine ⟨v', w', hrun, r1, (hb7.alloc hb7.size _).grown r2 (by have := hb7.size; simp; omega) (fun g hg => (own_block_ge ho7 g hg).1), fun k hk hne => ?_, fun k hk hne => ?_⟩
  rotate_left
  · have hs := hall.size
    rcases r3 with e | e
    · rw [e]; exact hne
    · rw [e]; simp; omega
  have hs := hall.size
  rw [r2.block k (by simp; omega) (fun e => hne e.symm), heap_alloc_old _ _ (by omega)]
  exact hall.block k hk
theorem app2 (a b : List UInt8) (w w7 : World) {v : Value} {n : Nat} {xs : List Value} (ho7 : w7.ownsRow w.heap.size 9 1 v n xs) (hb7 : Below w.heap.size w w7) (hn : n + 2 ≤ 100000000) :
    ∃ v' w', (Builtin.append_ #[91, 91] 91 #[v, .slice (some ⟨w7.heap.size, 0, none⟩) 2 2]).run Try.prog (w7.alloc (.cells #[.string ⟨a.toArray⟩, .string ⟨b.toArray⟩] 9)) = .ok v' w' ∧ w'.ownsRow w.heap.size 9 1 v' (n + 2) (xs ++ [strV a, strV b]) ∧
      Below w.heap.size w w' ∧ (∀ k, k < w7.heap.size → v.ownBlock ≠ some k → w'.heap[k]? = w7.heap[k]?) ∧ (∀ k, k < w7.heap.size → v.ownBlock ≠ some k → v'.ownBlock ≠ some k) := by
  obtain ⟨v', w', hrun, r1, r2, r3⟩ := append_sl textElem (w7.alloc (.cells #[.string ⟨a.toArray⟩, .string ⟨b.toArray⟩] 9)) w.heap.size 91 v n xs (ho7.alloc _) _ 2 [.string ⟨a.toArray⟩, .string ⟨b.toArray⟩] (slL w7 #[.string ⟨a.toArray⟩, .string ⟨b.toArray⟩] _) (fun u hu => by simp at hu; rcases hu with rfl | rfl <;> rfl) (by unfold maxLen; omega) (by omega) (by have := hb7.size; simp; omega)
  refine ⟨v', w', hrun, r1, (hb7.alloc hb7.size _).grown r2 (by have := hb7.size; simp; omega) (fun g hg => (own_block_ge ho7 g hg).1), fun k hk hne => ?_, fun k hk hne => ?_⟩
  · rw [r2.block k (by simp; omega) (fun e => hne e.symm), heap_alloc_old _ _ (by omega)]
  · rcases r3 with e | e
    · rw [e]; exact hne
    · rw [e]; simp; omega

theorem num0 (W : World) : Calls Try.prog 44 #[.int .u64 0] W fun e w' => e = .returned (.string ⟨(numB 0).toArray⟩) ∧ Below W.heap.size W w' := octet_Num 0 W (by decide) (by decide)
theorem num1 (W : World) : Calls Try.prog 44 #[.int .u64 1] W fun e w' => e = .returned (.string ⟨(numB 1).toArray⟩) ∧ Below W.heap.size W w' := octet_Num 1 W (by decide) (by decide)

set_option maxRecDepth 100000 in
set_option maxHeartbeats 16000000 in
theorem table_Text (rs : List TRow) (v : Value) (w : World) (hr : RowsIn w v rs) (hsm : Small rs) :
    Calls Try.prog 24 #[v] w fun e w' => e = .returned (.string ⟨(rowsB rs).toArray⟩) ∧ Below w.heap.size w w' := by
  obtain ⟨A, c, rfl⟩ := SlOf.shape hr
  have hn1 := hsm.1
  have HOK := Lib.hid (rows_ok4 hr)
  have HSM := Lib.hid hsm
  have HR := Lib.hid hr
  have HN := Lib.hid (fun W => octet_Num (rs.length : Int) W (by omega) (by omega))
  have hwl : IntKind.u64.wrap (rs.length : Int) = (rs.length : Int) := by rw [wrap_u64']; omega
  clear hr hsm
  go_enter Try.func24, Try.ntmps24
  go_wp2_with fail
  refine (HN.out _).mono ?_
  rintro e w1 ⟨rfl, hb1⟩
  rw [Int.toNat_natCast]
  have hs1 := hb1.size
  obtain ⟨W1, hW1⟩ : ∃ W1, W1 = w1.alloc (.cells #[.string ⟨(numB rs.length).toArray⟩] 9) := ⟨_, rfl⟩
  have HB1 := Lib.hid (show Below w.heap.size w W1 from by rw [hW1]; exact hb1.alloc hs1 _)
  have HROW1 := Lib.hid (show W1.ownsRow w.heap.size 9 1 (.slice (some ⟨w1.heap.size, 0, none⟩) 1 1) (partsK rs 0).length ((partsK rs 0).map strV) from by
    rw [hW1]
    have := owns_built (e := 9) #[.string ⟨(numB rs.length).toArray⟩] hs1 (by simp [maxLen])
    simpa [partsK, strV] using this)
  have HW1 := Lib.hid hW1
  clear hb1 hW1 hwl
  go_wp2_with fail
  rw [← HW1.out]
  go_loopw [3, 16] (fun sp si wr => ∃ k : Nat, si = .int .i64 k ∧ k ≤ rs.length ∧ wr.ownsRow w.heap.size 9 1 sp (partsK rs k).length ((partsK rs k).map strV) ∧ Below w.heap.size w wr) (fun _ si _ => rs.length - (intOf si).toNat)
  case atStart => exact ⟨0, rfl, Nat.zero_le _, HROW1.out, HB1.out⟩
  case round =>
    clear HROW1 HB1
    rename World => wo
    obtain ⟨k, rfl, hk, hown, hbk⟩ := hrel
    have HOWN := Lib.hid hown
    have HBK := Lib.hid hbk
    clear hown hbk
    by_cases hlt : k < rs.length
    · obtain ⟨b, off, A', c', rfl, hbk, k0, k1, k2, k3, hsl, hll, o1, o2, o3⟩ := RowsIn.at HR.out k hlt
      replace k0 := cell_keep HBK.out k0
      replace k1 := cell_keep HBK.out k1
      replace k2 := cell_keep HBK.out k2
      replace k3 := cell_keep HBK.out k3
      have hki : (k : Int) < (rs.length : Int) := by omega
      have hpl := partsK_len rs k HSM.out
      have hrl := HSM.out.2 rs[k] (List.getElem_mem hlt)
      have HPJ0 := Lib.hid (show partsJ rs k rs[k] 0 = partsK rs k ++ headP rs[k] from by unfold partsJ; simp)
      have HSTK := Lib.hid (partsK_step rs k hlt)
      have HPLJ := Lib.hid (fun j => partsJ_len rs k rs[k] j HSM.out hrl)
      have HSTJ := Lib.hid (fun j => partsJ_step rs k rs[k] j)
      have HSL := Lib.hid hsl
      obtain ⟨p1, p2⟩ := o1
      obtain ⟨p3, p4⟩ := o2
      obtain ⟨p5, p6⟩ := o3
      have HND := Lib.hid (decs_ok hsl)
      clear hsl
      generalize rs[k] = r at *
      obtain ⟨rc, re, rd, rl⟩ := r
      simp only at k0 k1 k2 k3 hll p1 p2 p3 p4 p5 p6 hrl HSL HND
      obtain ⟨W2, hW2⟩ : ∃ W2, W2 = wo.alloc (.cells #[.int .i64 rc, .int .i64 re, .int .i64 rd, .slice A' rl.length c'] 63) := ⟨_, rfl⟩
      have q0 : W2.cell? ⟨wo.heap.size, 0, none⟩ = some (.int .i64 rc) := by rw [hW2]; exact cell_new _ _ _ 0
      have q1 : W2.cell? ⟨wo.heap.size, 1, none⟩ = some (.int .i64 re) := by rw [hW2]; exact cell_new _ _ _ 1
      have q2 : W2.cell? ⟨wo.heap.size, 2, none⟩ = some (.int .i64 rd) := by rw [hW2]; exact cell_new _ _ _ 2
      have q3 : W2.cell? ⟨wo.heap.size, 3, none⟩ = some (.slice A' rl.length c') := by rw [hW2]; exact cell_new _ _ _ 3
      have hb2 : Below w.heap.size w W2 := by rw [hW2]; exact HBK.out.alloc HBK.out.size _
      have ho2 : W2.ownsRow w.heap.size 9 1 u3 (partsK rs k).length ((partsK rs k).map strV) := by rw [hW2]; exact HOWN.out.alloc _
      have hne : u3.ownBlock ≠ some wo.heap.size := fun e => by have := (own_block_ge HOWN.out _ e).2; omega
      have HW2 := Lib.hid hW2
      have HNE := Lib.hid hne
      have HO2d : Hid (W2.drew.ownsRow w.heap.size 9 1 u3 (partsK rs k).length ((partsK rs k).map strV)) := Lib.hid ho2
      have hb20 := below_dn hb2 1
      have hbw0 := Below.refl W2.drew.heap.size W2.drew
      have hs2 : W2.heap.size = wo.heap.size + 1 := by rw [hW2]; simp
      have HS2 := Lib.hid hs2
      have hws : w.heap.size ≤ wo.heap.size := HBK.out.size
      have hwr : IntKind.u64.wrap (rl.length : Int) = (rl.length : Int) := by rw [wrap_u64']; omega
      have HNL := Lib.hid (fun W => octet_Num (rl.length : Int) W (by omega) (by omega))
      rw [Int.toNat_natCast] at HNL
      have HN1 := Lib.hid (fun W => table_number rc W p1 p2)
      have HN2 := Lib.hid (fun W => table_number re W p3 p4)
      have HN3 := Lib.hid (fun W => table_number rd W p5 p6)
      clear hW2 ho2 hne hs2
      go_wp2_with fail
      rw [← HW2.out]
      go_region_held3 (fun W => W.cell? ⟨wo.heap.size, 0, none⟩ = some (.int .i64 rc) ∧ W.cell? ⟨wo.heap.size, 1, none⟩ = some (.int .i64 re) ∧ W.cell? ⟨wo.heap.size, 2, none⟩ = some (.int .i64 rd) ∧ W.cell? ⟨wo.heap.size, 3, none⟩ = some (.slice A' rl.length c') ∧ Below w.heap.size w W)
        (first | (go_keep; done) | (go_split_ands; refine ⟨?_, ?_, ?_, ?_, ?_⟩; all_goals first | exact cell_keep hb7 (by assumption) | exact below_trans (by assumption) hb7 (Below.size (by assumption)) | exact hb20 | assumption | exact Below.alloc (by assumption) (Below.size (by assumption)) _ | exact cell_alloc _ (by assumption) | exact hfc _ _ (by assumption) | exact hfb))
        (first | (go_at_call 45; first | (refine (HN1.out _).mono ?_; rintro e w7 ⟨rfl, hb7⟩) | (refine (HN2.out _).mono ?_; rintro e w7 ⟨rfl, hb7⟩) | (refine (HN3.out _).mono ?_; rintro e w7 ⟨rfl, hb7⟩)) | (go_at_call 44; refine (HNL.out _).mono ?_; rintro e w7 ⟨rfl, hb7⟩) | (go_split_ands; obtain ⟨v', w', hrun, hro, hfb, hfk, hfo⟩ := app4 (wholeB rc) (wholeB re) (wholeB rd) (numB rl.length) w w7 W2.drew _ _ _ HO2d.out (by assumption) (by assumption) (by assumption) (by assumption) hb20 (by omega); have hfc : ∀ o u, W2.cell? ⟨wo.heap.size, o, none⟩ = some u → w'.cell? ⟨wo.heap.size, o, none⟩ = some u := (fun o u hu => (World.cell?_of_block (hfk _ (by show wo.heap.size < W2.heap.size; rw [HS2.out]; omega) HNE.out)).trans hu); refine step_append_run rfl _ _ _ rfl _ _ _ _ rfl rfl hrun ?_))
      have z3 := hfc 3 _ q3
      have hlen : (partsJ rs k ⟨rc, re, rd, rl⟩ 0).length = (partsK rs k).length + 4 := by rw [HPJ0.out, List.length_append]; rfl
      have HJ0 := Lib.hid (show w'.ownsRow w.heap.size 9 1 v' (partsJ rs k ⟨rc, re, rd, rl⟩ 0).length ((partsJ rs k ⟨rc, re, rd, rl⟩ 0).map strV) ∧ TBox w' wo.heap.size 63 #[.int .i64 rc, .int .i64 re, .int .i64 rd, .slice A' rl.length c'] ∧ Below w.heap.size w w' ∧ v'.ownBlock ≠ some wo.heap.size from by
        refine ⟨?_, ?_, hfb, hfo _ (by show wo.heap.size < W2.heap.size; rw [HS2.out]; omega) HNE.out⟩
        · rw [hlen, HPJ0.out, List.map_append]
          exact hro
        · have := TBox.new wo 63 #[.int .i64 rc, .int .i64 re, .int .i64 rd, .slice A' rl.length c']
          rw [← HW2.out] at this
          unfold TBox at this ⊢
          rw [hfk _ (by show wo.heap.size < W2.heap.size; rw [HS2.out]; omega) HNE.out]
          exact this)
      have HRL := Lib.hid hrl
      clear hro hfb hfc hfk hlen hrun q0 q1 q2 q3 k0 k1 k2 k3 hwr hb2 hb20 hbw0
      go_wp2_with fail
      go_loopw [3, 40] (fun sp sj wr2 => ∃ j : Nat, sj = .int .i64 j ∧ j ≤ rl.length ∧ wr2.ownsRow w.heap.size 9 1 sp (partsJ rs k ⟨rc, re, rd, rl⟩ j).length ((partsJ rs k ⟨rc, re, rd, rl⟩ j).map strV) ∧ TBox wr2 wo.heap.size 63 #[.int .i64 rc, .int .i64 re, .int .i64 rd, .slice A' rl.length c'] ∧ Below w.heap.size w wr2 ∧ sp.ownBlock ≠ some wo.heap.size) (fun _ sj _ => rl.length - (intOf sj).toNat)
      case atStart => exact ⟨0, rfl, Nat.zero_le _, HJ0.out⟩
      case round =>
        rename World => wr2
        clear HJ0 z3
        obtain ⟨j, rfl, hj, hx⟩ := hrel
        have HX := Lib.hid hx
        have z3 : wr2.cell? ⟨wo.heap.size, 3, none⟩ = some (.slice A' rl.length c') := hx.2.1.cell 3
        clear hx
        by_cases hjl : j < rl.length
        · obtain ⟨b2, off2, hA2, hbk2, y0, y1, od⟩ := decs_at HSL.out j hjl
          subst hA2
          have d0 := cell_keep HX.out.2.2.1 y0
          have d1 := cell_keep HX.out.2.2.1 y1
          have hji : (j : Int) < (rl.length : Int) := by omega
          have hjp := HPLJ.out j
          have HST := Lib.hid (HSTJ.out j hjl)
          obtain ⟨e1, e2⟩ := od
          clear y0 y1
          generalize rl[j] = d at *
          obtain ⟨dq, db⟩ := d
          simp only at d0 d1 e1 e2 HST
          have HNQ := Lib.hid (fun W => table_number dq W e1 e2)
          obtain ⟨W3, hW3⟩ : ∃ W3, W3 = wr2.alloc (.cells #[.int .i64 dq, .bool db] 65) := ⟨_, rfl⟩
          have g0 : W3.cell? ⟨wr2.heap.size, 0, none⟩ = some (.int .i64 dq) := by rw [hW3]; exact cell_new _ _ _ 0
          have g1 : W3.cell? ⟨wr2.heap.size, 1, none⟩ = some (.bool db) := by rw [hW3]; exact cell_new _ _ _ 1
          have HB3 := Lib.hid (show Below wr2.heap.size wr2 W3 from by rw [hW3]; exact (Below.refl _ _).alloc (Nat.le_refl _) _)
          have HO3 := Lib.hid (show W3.ownsRow w.heap.size 9 1 u3 (partsJ rs k ⟨rc, re, rd, rl⟩ j).length ((partsJ rs k ⟨rc, re, rd, rl⟩ j).map strV) from by rw [hW3]; exact HX.out.1.alloc _)
          have HW3 := Lib.hid hW3
          have hws2 : w.heap.size ≤ wr2.heap.size := HX.out.2.2.1.size
          clear hW3
          cases db
          · have HNY := Lib.hid num0
            go_wp2_with fail
            rw [← HW3.out]
            refine (HNQ.out _).mono ?_
            rintro e w4 ⟨rfl, hb4⟩
            have HB4 := Lib.hid hb4
            clear hb4
            go_wp2_with fail
            refine (HNY.out _).mono ?_
            rintro e w5 ⟨rfl, hb5⟩
            have HB5 := Lib.hid (below_trans HB4.out hb5 HB4.out.size)
            clear hb5
            obtain ⟨v', w', hrun, hro, hfb, hfk, hfo⟩ := app2 (wholeB dq) (numB 0) w w5 (owns_below HO3.out HB5.out) (below_trans (below_trans HX.out.2.2.1 HB3.out hws2) HB5.out (Nat.le_trans hws2 HB3.out.size)) (by omega)
            have HZ := Lib.hid (show w'.ownsRow w.heap.size 9 1 v' (partsJ rs k ⟨rc, re, rd, rl⟩ (j + 1)).length ((partsJ rs k ⟨rc, re, rd, rl⟩ (j + 1)).map strV) ∧ TBox w' wo.heap.size 63 #[.int .i64 rc, .int .i64 re, .int .i64 rd, .slice (some ⟨b2, off2, none⟩) rl.length c'] ∧ Below w.heap.size w w' ∧ v'.ownBlock ≠ some wo.heap.size from by
              have t5 := (HX.out.2.1.below HB3.out).below HB5.out
              have l5 := t5.lt
              refine ⟨?_, ?_, hfb, hfo _ l5 HX.out.2.2.2⟩
              · rw [HST.out, List.length_append, List.map_append]
                exact hro
              · unfold TBox at t5 ⊢
                rw [hfk _ l5 HX.out.2.2.2]
                exact t5)
            clear hro hfb hfk
            go_wp2_with (at_builtin; refine wpList_append_run rfl _ _ _ rfl _ _ _ _ rfl rfl hrun ?_)
            go_roundw
            case rel => exact ⟨j + 1, by go_num, by omega, HZ.out⟩
            case measure => simp [intOf]; omega
          · have HNY := Lib.hid num1
            go_wp2_with fail
            rw [← HW3.out]
            refine (HNQ.out _).mono ?_
            rintro e w4 ⟨rfl, hb4⟩
            have HB4 := Lib.hid hb4
            clear hb4
            go_wp2_with fail
            refine (HNY.out _).mono ?_
            rintro e w5 ⟨rfl, hb5⟩
            have HB5 := Lib.hid (below_trans HB4.out hb5 HB4.out.size)
            clear hb5
            obtain ⟨v', w', hrun, hro, hfb, hfk, hfo⟩ := app2 (wholeB dq) (numB 1) w w5 (owns_below HO3.out HB5.out) (below_trans (below_trans HX.out.2.2.1 HB3.out hws2) HB5.out (Nat.le_trans hws2 HB3.out.size)) (by omega)
            have HZ := Lib.hid (show w'.ownsRow w.heap.size 9 1 v' (partsJ rs k ⟨rc, re, rd, rl⟩ (j + 1)).length ((partsJ rs k ⟨rc, re, rd, rl⟩ (j + 1)).map strV) ∧ TBox w' wo.heap.size 63 #[.int .i64 rc, .int .i64 re, .int .i64 rd, .slice (some ⟨b2, off2, none⟩) rl.length c'] ∧ Below w.heap.size w w' ∧ v'.ownBlock ≠ some wo.heap.size from by
              have t5 := (HX.out.2.1.below HB3.out).below HB5.out
              have l5 := t5.lt
              refine ⟨?_, ?_, hfb, hfo _ l5 HX.out.2.2.2⟩
              · rw [HST.out, List.length_append, List.map_append]
                exact hro
              · unfold TBox at t5 ⊢
                rw [hfk _ l5 HX.out.2.2.2]
                exact t5)
            clear hro hfb hfk
            go_wp2_with (at_builtin; refine wpList_append_run rfl _ _ _ rfl _ _ _ _ rfl rfl hrun ?_)
            go_roundw
            case rel => exact ⟨j + 1, by go_num, by omega, HZ.out⟩
            case measure => simp [intOf]; omega
        · have hfin : partsJ rs k ⟨rc, re, rd, rl⟩ j = partsK rs (k + 1) := by
            rw [HSTK.out, show j = rl.length from by omega]
          rw [hfin] at HX
          have hji : ¬ (j : Int) < (rl.length : Int) := by omega
          clear hfin
          go_wp2_with fail
          go_roundw
          case rel => exact ⟨k + 1, by go_num, by omega, HX.out.1, HX.out.2.2.1⟩
          case measure => simp [intOf]; omega
    · obtain rfl : k = rs.length := by omega
      have hrow := Row.of_owns HOWN.out
      rw [partsK_end] at hrow
      have hpl := partsK_len rs rs.length HSM.out
      rw [partsK_end] at hpl
      have hl := parts_size _ (rowsP_short rs HSM.out HOK.out)
      have HJ := Lib.hid (join_row u3 (rowsP rs) wo hrow (by unfold rowsP; simp) (by omega) (by omega))
      have HD : Hid ((rowsP rs).flatten = rowsB rs) := Lib.hid rfl
      clear hrow hl hpl
      go_wp2_with fail
      refine HJ.out.mono ?_
      rintro e w2 ⟨rfl, hb2⟩
      rw [HD.out]
      have HB2 := Lib.hid (below_trans HBK.out hb2 HBK.out.size)
      clear hb2
      go_wp2_with fail
      go_ret
      exact ⟨rfl, HB2.out⟩
end Go.Proofs.Ythnajmfbomedlaa
