/- The ring's sectors, one by one. Right logs: what Append, Drop, Scan make of them. copyholdref04.Right, Image. A row of bytes as a text; ref04.New; shown. copyholdref05.Record, Need, May. -/
import Derived.Test.YtlcepboedifniaaGreatDoorMrgN
set_option linter.unusedVariables false
set_option linter.unusedSimpArgs false
namespace Go.Proofs.YtlcepboedifniaaGreatDoor
open Go Go.RowKit Copyhold Copyhold.Disk
def secI (d : Dsk) (r : Rng) (i : Int) : Txt := (imageL d).getD (r.from_ + i % r.many).toNat []
def segN (d : Dsk) (r : Rng) (a : Int) (u : Nat) : Txt := ((List.range u).map fun (j : Nat) => secI d r (a + (j : Int))).flatten
theorem segN_succ (d : Dsk) (r : Rng) (a : Int) (u : Nat) : segN d r a (u + 1) = segN d r a u ++ secI d r (a + (u : Int)) := by simp [segN, List.range_succ]
theorem segN_add (d : Dsk) (r : Rng) (a : Int) (u : Nat) : ∀ v, segN d r a (u + v) = segN d r a u ++ segN d r (a + (u : Int)) v
  | 0 => by simp [segN]
  | v + 1 => by
    rw [← Nat.add_assoc, segN_succ, segN_add d r a u v, segN_succ, List.append_assoc]
    congr 3
    omega
theorem secI_mod (d : Dsk) (r : Rng) (a i : Int) : secI d r (a % r.many + i) = secI d r (a + i) := by
  unfold secI
  rw [Int.emod_add_emod]
theorem secI_turn (d : Dsk) (r : Rng) (i : Int) : secI d r (i + r.many) = secI d r i := by
  unfold secI
  rw [Int.add_emod_right]
theorem segN_mod (d : Dsk) (r : Rng) (a : Int) (u : Nat) : segN d r (a % r.many) u = segN d r a u := by
  unfold segN
  congr 1
  exact List.map_congr_left fun j _ => secI_mod d r a j
theorem segN_ext {d d' : Dsk} {r : Rng} {a : Int} {u : Nat} (h : ∀ j : Nat, j < u → secI d r (a + (j : Int)) = secI d' r (a + (j : Int))) : segN d r a u = segN d' r a u := by
  unfold segN
  congr 1
  exact List.map_congr_left fun j hj => h j (List.mem_range.1 hj)
theorem ring_in {n : Nat} {r : Rng} (h : ringP n r) (i : Int) : (r.from_ + i % r.many).toNat < n ∧ 0 ≤ r.from_ ∧ 0 ≤ i % r.many ∧ i % r.many < r.many ∧ 1 ≤ r.many := by
  have h3 : 0 ≤ r.from_ ∧ 1 ≤ r.many ∧ r.from_ ≤ n ∧ r.many ≤ n - r.from_ := h
  have h4 := Int.emod_nonneg i (b := r.many) (by omega)
  have h5 := Int.emod_lt_of_pos i (b := r.many) (by omega)
  omega
theorem secI_len {d : Dsk} {r : Rng} (hr : Copyhold.Disk.Right d) (h : ringP d.kept.length r) (i : Int) : (secI d r i).length = 64 := by
  have hi := (ring_in h i).1
  unfold secI
  have hl : (r.from_ + i % r.many).toNat < (imageL d).length := by rw [image_len]; exact hi
  rw [List.getD_eq_getElem?_getD, List.getElem?_eq_getElem hl]
  exact image64 hr _ (List.getElem_mem hl)
theorem segN_len {d : Dsk} {r : Rng} (hr : Copyhold.Disk.Right d) (h : ringP d.kept.length r) (a : Int) : ∀ u, (segN d r a u).length = 64 * u
  | 0 => rfl
  | u + 1 => by
    rw [segN_succ, List.length_append, segN_len hr h a u, secI_len hr h]
    omega
theorem fl_take : ∀ (k : Nat) (L : List Txt), (∀ x ∈ L, x.length = 64) → L.flatten.take (64 * k) = (L.take k).flatten
  | 0, L, _ => by simp
  | k + 1, [], _ => by simp
  | k + 1, a :: L, h => by
    have ha := h a List.mem_cons_self
    rw [List.flatten_cons, List.take_succ_cons, List.flatten_cons, show 64 * (k + 1) = a.length + 64 * k from by omega, List.take_length_add_append, fl_take k L fun x hx => h x (List.mem_cons_of_mem _ hx)]
theorem fl_drop : ∀ (k : Nat) (L : List Txt), (∀ x ∈ L, x.length = 64) → L.flatten.drop (64 * k) = (L.drop k).flatten
  | 0, L, _ => by simp
  | k + 1, [], _ => by simp
  | k + 1, a :: L, h => by
    have ha := h a List.mem_cons_self
    rw [List.flatten_cons, List.drop_succ_cons, show 64 * (k + 1) = a.length + 64 * k from by omega, List.drop_length_add_append, fl_drop k L fun x hx => h x (List.mem_cons_of_mem _ hx)]
theorem ringI_at {d : Dsk} {r : Rng} (h : ringP d.kept.length r) (i : Nat) (hi : (i : Int) < r.many) : (ringI d r)[i]? = (imageL d)[(r.from_ + (i : Int)).toNat]? := by
  have h3 : 0 ≤ r.from_ ∧ 1 ≤ r.many ∧ r.from_ ≤ d.kept.length ∧ r.many ≤ d.kept.length - r.from_ := h
  unfold ringI
  rw [List.getElem?_drop, List.getElem?_take, if_pos (by omega)]
  congr 1
  omega
theorem segI_segN {d : Dsk} {r : Rng} {l : Lg} (hr : Copyhold.Disk.Right d) (h : goodW d r l) : segI d r l = segN d r l.at_ l.used.toNat := by
  obtain ⟨h1, h2, h3, h4⟩ := h
  have h2' : 0 ≤ l.at_ ∧ l.at_ < r.many := h2
  have hl := ringI_len hr h1
  have h64 : ∀ x ∈ ringI d r ++ ringI d r, x.length = 64 := by
    intro x hx
    have : x ∈ ringI d r := by rcases List.mem_append.1 hx with h | h <;> exact h
    exact image64 hr x (List.mem_of_mem_take (List.mem_of_mem_drop this))
  unfold segI allI
  rw [← List.flatten_append, show (l.at_ * 64 + l.used * 64).toNat = 64 * (l.at_.toNat + l.used.toNat) from by omega, show (l.at_ * 64).toNat = 64 * l.at_.toNat from by omega, fl_take _ _ h64, fl_drop _ _ fun x hx => h64 x (List.mem_of_mem_take hx)]
  unfold segN
  congr 1
  apply List.ext_getElem?
  intro j
  rw [List.getElem?_drop, List.getElem?_take]
  by_cases hj : j < l.used.toNat
  · rw [if_pos (by omega), List.getElem?_map, List.getElem?_range hj]
    show _ = some (secI d r (l.at_ + (j : Int)))
    have hi := ring_in h1 (l.at_ + (j : Int))
    have hs : some (secI d r (l.at_ + (j : Int))) = (imageL d)[(r.from_ + (l.at_ + (j : Int)) % r.many).toNat]? := by
      have hl : (r.from_ + (l.at_ + (j : Int)) % r.many).toNat < (imageL d).length := by rw [image_len]; exact hi.1
      unfold secI
      rw [List.getD_eq_getElem?_getD, List.getElem?_eq_getElem hl]
      rfl
    rw [hs]
    by_cases hw : l.at_ + (j : Int) < r.many
    · rw [List.getElem?_append_left (by omega), ringI_at h1 _ (by omega), Int.emod_eq_of_lt (by omega) hw]
      congr 1
      omega
    · rw [List.getElem?_append_right (by omega), ringI_at h1 _ (by omega)]
      have e : (l.at_ + (j : Int)) % r.many = l.at_ + (j : Int) - r.many := by
        rw [← Int.sub_emod_right, Int.emod_eq_of_lt (by omega) (by omega)]
      rw [e]
      congr 1
      omega
  · rw [if_neg (by omega), List.getElem?_eq_none (by rw [List.length_map, List.length_range]; omega)]
theorem image_put {d : Dsk} {a : Int} {s : Txt} (hr : Copyhold.Disk.Right d) (ha : 0 ≤ a ∧ a < d.kept.length) (hs : s.length ≤ 64) : imageL (dputW d a s) = (imageL d).set a.toNat (padL s) ∧ Copyhold.Disk.Right (dputW d a s) := by
  have h : Copyhold.Disk.Right (dputW d a s) := ⟨hr.1, hr.2.1, fun p hp => by
    rcases List.mem_append.1 hp with hp | hp
    · exact hr.2.2 p hp
    · obtain rfl := List.mem_singleton.1 hp
      exact ⟨ha, padL_len s hs⟩⟩
  refine ⟨?_, h⟩
  rw [Copyhold.Disk.Right.image h, Copyhold.Disk.Right.image hr]
  show doneL d.kept (d.w ++ [(a, padL s)]) = _
  rw [doneL_append]
  rfl
theorem mod_inj {M a : Int} {j k : Nat} (hj : (j : Int) < M) (hk : (k : Int) < M) (h : (a + (j : Int)) % M = (a + (k : Int)) % M) : j = k := by
  have h1 := Int.mul_ediv_add_emod (a + (j : Int)) M
  have h2 := Int.mul_ediv_add_emod (a + (k : Int)) M
  rw [h] at h1
  generalize (a + (k : Int)) % M = t at *
  generalize (a + (j : Int)) / M = p at *
  generalize (a + (k : Int)) / M = q at *
  by_cases e : p = q
  · subst e
    omega
  · exfalso
    have e2 : M * p - M * q = (j : Int) - (k : Int) := by omega
    rw [← Int.mul_sub] at e2
    by_cases hl : p < q
    · have := Int.mul_le_mul_of_nonneg_left (c := M) (show p - q ≤ -1 by omega) (by omega)
      omega
    · have := Int.mul_le_mul_of_nonneg_left (c := M) (show 1 ≤ p - q by omega) (by omega)
      omega
theorem lay_sec {d : Dsk} {r : Rng} {a : Int} {ps : List Txt} (hr : Copyhold.Disk.Right d) (hrg : ringP d.kept.length r) (hps : ∀ x ∈ ps, x.length ≤ 64) : ∀ k, k ≤ ps.length → (k : Int) ≤ r.many →
    Copyhold.Disk.Right (layK d r a ps k) ∧ (layK d r a ps k).kept = d.kept ∧ ∀ j : Nat, (j : Int) < r.many → secI (layK d r a ps k) r (a + (j : Int)) = if j < k then padL (ps.getD j []) else secI d r (a + (j : Int))
  | 0, _, _ => ⟨hr, rfl, fun j _ => rfl⟩
  | k + 1, h1, h2 => by
    obtain ⟨i1, i2, i3⟩ := lay_sec hr hrg hps k (by omega) (by omega)
    have hin := ring_in hrg (a + (k : Int))
    have e : roundF r (a + (k : Int)) = (a + (k : Int)) % r.many := if_neg (by omega)
    have hx : (ps.getD k []).length ≤ 64 := by
      rw [List.getD_eq_getElem?_getD, List.getElem?_eq_getElem (by omega)]
      exact hps _ (List.getElem_mem _)
    obtain ⟨p1, p2⟩ := image_put (a := r.from_ + roundF r (a + (k : Int))) i1 (by rw [i2, e]; omega) hx
    refine ⟨p2, i2, fun j hj => ?_⟩
    have hij := ring_in hrg (a + (j : Int))
    unfold secI
    show (imageL (dputW (layK d r a ps k) (r.from_ + roundF r (a + (k : Int))) (ps.getD k []))).getD _ [] = _
    rw [p1, e]
    by_cases hjk : j = k
    · subst hjk
      rw [if_pos (Nat.lt_succ_self _), List.getD_eq_getElem?_getD, List.getElem?_set_self (by rw [image_len, i2]; exact hij.1)]
      rfl
    · have hne : ¬ (r.from_ + (a + (k : Int)) % r.many).toNat = (r.from_ + (a + (j : Int)) % r.many).toNat := fun h => hjk (mod_inj (a := a) hj (by omega) (by omega))
      rw [List.getD_eq_getElem?_getD, List.getElem?_set_ne hne, ← List.getD_eq_getElem?_getD]
      have := i3 j hj
      unfold secI at this
      rw [this]
      by_cases hlt : j < k
      · rw [if_pos hlt, if_pos (by omega)]
      · rw [if_neg hlt, if_neg (by omega)]
theorem padL_full {x : Txt} (h : x.length = 64) : padL x = x := by
  unfold padL
  rw [h]
  simp
theorem cutK_flat (s : Txt) : ∀ k, 64 * k ≤ s.length → ((cutK s k).map padL).flatten = s.take (64 * k)
  | 0, _ => by simp [cutK]
  | k + 1, h => by
    rw [cutK_succ, List.map_append, List.flatten_append, cutK_flat s k (by omega), List.map_cons, List.map_nil, List.flatten_cons, List.flatten_nil, List.append_nil, padL_full (by rw [List.length_take, List.length_drop]; omega), show 64 * (k + 1) = 64 * k + 64 from by omega, List.take_add]
theorem flat_cut (s : Txt) (h : 1 ≤ s.length) : ((cutF s).map padL).flatten = s ++ List.replicate (64 * (cutN s + 1) - s.length) 0 := by
  have hN : cutN s = (s.length - 1) / 64 := rfl
  unfold cutF
  rw [List.map_append, List.flatten_append, cutK_flat s _ (by omega), List.map_cons, List.map_nil, List.flatten_cons, List.flatten_nil, List.append_nil]
  unfold padL
  rw [← List.append_assoc, List.take_append_drop, List.length_drop]
  congr 2
  omega
theorem cut_need (n : Int) (s : Txt) : cutN (recB n s) + 1 = needB s := by
  have h := need_rec n s
  have h2 := recB_len n s
  unfold sec at h
  unfold cutN
  omega
theorem laid_sec {d : Dsk} {r : Rng} {l : Lg} {s : Txt} (hr : Copyhold.Disk.Right d) (hrg : ringP d.kept.length r) (hu : 0 ≤ l.used) (hn : l.used + (needB s : Int) ≤ r.many) :
    Copyhold.Disk.Right (laidD d r l s) ∧ (laidD d r l s).kept = d.kept ∧ segN (laidD d r l s) r (l.at_ + l.used) (needB s) = padR (nxtN l) s ∧ ∀ u : Nat, (u : Int) ≤ l.used → segN (laidD d r l s) r l.at_ u = segN d r l.at_ u := by
  have hc := cut_need (nxtN l) s
  have hcl := cutF_len (recB (nxtN l) s)
  have hrl := recB_len (nxtN l) s
  obtain ⟨h1, h2, h3⟩ := lay_sec (a := l.at_ + l.used) (ps := cutF (recB (nxtN l) s)) hr hrg (cutF_small _) (cutF (recB (nxtN l) s)).length (Nat.le_refl _) (by omega)
  refine ⟨h1, h2, ?_, fun u hu2 => segN_ext fun j hj => ?_⟩
  · unfold padR
    rw [← hc, ← flat_cut _ (by omega), ← hcl]
    unfold segN
    congr 1
    apply List.ext_getElem?
    intro j
    rw [List.getElem?_map, List.getElem?_map]
    by_cases hj : j < (cutF (recB (nxtN l) s)).length
    · rw [List.getElem?_range hj, List.getElem?_eq_getElem hj]
      show some (secI _ r (l.at_ + l.used + (j : Int))) = _
      have := h3 j (by omega)
      rw [if_pos hj, List.getD_eq_getElem?_getD, List.getElem?_eq_getElem hj] at this
      exact congrArg some this
    · rw [List.getElem?_eq_none (by rw [List.length_range]; omega), List.getElem?_eq_none (by omega)]
      rfl
  · have := h3 (r.many - l.used + (j : Int)).toNat (by omega)
    rw [if_neg (by omega)] at this
    rw [show l.at_ + l.used + (((r.many - l.used + (j : Int)).toNat : Nat) : Int) = l.at_ + (j : Int) + r.many from by omega, secI_turn, secI_turn] at this
    exact this
end Go.Proofs.YtlcepboedifniaaGreatDoor

set_option linter.unusedVariables false
set_option linter.unusedSimpArgs false
namespace Go.Proofs.YtlcepboedifniaaGreatDoor
open Go Go.RowKit Copyhold Copyhold.Disk
structure LogOk (d : Dsk) (r : Rng) (l : Lg) (ts : List Txt) : Prop where
  off : d.off = false
  ring : ringP d.kept.length r
  place : placeP r l.at_
  used : l.used = (sumN ts : Int)
  room : (sumN ts : Int) ≤ r.many
  many : l.many = (ts.length : Int)
  seg : segN d r l.at_ (sumN ts) = catR l.first ts
  num : U64 l.first
theorem LogOk.good {d : Dsk} {r : Rng} {l : Lg} {ts : List Txt} (h : LogOk d r l ts) : goodW d r l := ⟨h.ring, h.place, by have := h.used; omega, by have := h.used; have := h.room; omega⟩
theorem LogOk.small {d : Dsk} {r : Rng} {l : Lg} {ts : List Txt} (h : LogOk d r l ts) (hk : d.kept.length ≤ 200) : sumN ts ≤ 200 ∧ ts.length ≤ 200 ∧ ∀ s ∈ ts, s.length ≤ 1000000 := by
  have h3 : 0 ≤ r.from_ ∧ 1 ≤ r.many ∧ r.from_ ≤ d.kept.length ∧ r.many ≤ d.kept.length - r.from_ := h.ring
  have h4 := h.room
  have h5 := sumN_len ts
  refine ⟨by omega, by omega, fun s hs => ?_⟩
  have := sumN_mem hs
  have := need_len s
  omega
theorem LogOk.recs {d : Dsk} {r : Rng} {l : Lg} {ts : List Txt} (h : LogOk d r l ts) (hk : d.kept.length ≤ 200) : recsG (segN d r l.at_ (sumN ts)) l.first = ts := by
  have e := recs_cat ts l.first [] (h.small hk).2.2 h.num
  rw [List.append_nil, recs_nil, List.append_nil, ← h.seg] at e
  exact e
theorem LogOk.told {d : Dsk} {r : Rng} {l : Lg} {ts : List Txt} (h : LogOk d r l ts) (hr : Copyhold.Disk.Right d) (hk : d.kept.length ≤ 200) (mx : Int) : toldW d r l mx = ts.take mx.toNat := by
  rw [toldW_good h.good, segI_segN hr h.good, show l.used.toNat = sumN ts from by have := h.used; omega, h.recs hk]
theorem LogOk.more {d : Dsk} {r : Rng} {l : Lg} {ts : List Txt} (h : LogOk d r l ts) (hk : d.kept.length ≤ 200) : ∃ x, recsG (segN d r l.at_ r.many.toNat) l.first = ts ++ x := by
  have h4 := h.room
  refine ⟨recsG (segN d r (l.at_ + (sumN ts : Int)) (r.many.toNat - sumN ts)) ((l.first + (ts.length : Int)) % 18446744073709551616), ?_⟩
  conv => lhs; rw [show r.many.toNat = sumN ts + (r.many.toNat - sumN ts) from by omega, segN_add, h.seg]
  exact recs_cat ts l.first _ (h.small hk).2.2 h.num
theorem lg0_good {d : Dsk} {r : Rng} {a n : Int} (h1 : ringP d.kept.length r) (h2 : placeP r a) : goodW d r (lg0 r a n) := ⟨h1, h2, by have h3 : 0 ≤ r.from_ ∧ 1 ≤ r.many ∧ _ := h1; show 0 ≤ r.many; omega, Int.le_refl _⟩
theorem told0 {d : Dsk} {r : Rng} {a n : Int} (hr : Copyhold.Disk.Right d) (h1 : ringP d.kept.length r) (h2 : placeP r a) (mx : Int) : toldW d r (lg0 r a n) mx = (recsG (segN d r a r.many.toNat) n).take mx.toNat := by
  rw [toldW_good (lg0_good h1 h2), segI_segN hr (lg0_good h1 h2)]
  rfl
theorem segN_take {d : Dsk} {r : Rng} {a : Int} {u m : Nat} (hr : Copyhold.Disk.Right d) (hrg : ringP d.kept.length r) (hu : u ≤ m) : (segN d r a m).take (64 * u) = segN d r a u := by
  conv => lhs; rw [show m = u + (m - u) from by omega, segN_add, List.take_left' (segN_len hr hrg a u)]
theorem ok_found {d : Dsk} {r : Rng} {a n : Int} (hr : Copyhold.Disk.Right d) (ho : d.off = false) (h1 : ringP d.kept.length r) (h2 : placeP r a) (hn : U64 n) (mx : Int) : LogOk d r (lgW (lg0 r a n) (toldW d r (lg0 r a n) mx)) (toldW d r (lg0 r a n) mx) := by
  have hs := recs_sum (segN d r a r.many.toNat).length (segN d r a r.many.toNat) n
  change 64 * sumN (recsG (segN d r a r.many.toNat) n) ≤ _ at hs
  rw [segN_len hr h1] at hs
  have ht := sumN_take (recsG (segN d r a r.many.toNat) n) mx.toNat
  have h3 : 0 ≤ r.from_ ∧ 1 ≤ r.many ∧ _ := h1
  rw [told0 hr h1 h2]
  refine ⟨ho, h1, h2, rfl, by omega, rfl, ?_, hn⟩
  show segN d r a _ = catR n _
  rw [recs_cut hn]
  exact (segN_take hr h1 (by omega)).symm
def rrT (d : Dsk) (r : Rng) (l : Lg) : Prop := d.off = false ∧ ringP d.kept.length r ∧ placeP r l.at_ ∧ 0 ≤ l.many ∧ 0 ≤ l.used ∧ ((toldW d r (lg0 r l.at_ l.first) l.many).length : Int) = l.many ∧ (sumN (toldW d r (lg0 r l.at_ l.first) l.many) : Int) = l.used
theorem rr_ok {d : Dsk} {r : Rng} {l : Lg} (hr : Copyhold.Disk.Right d) (hn : U64 l.first) (h : rrT d r l) : LogOk d r l (toldW d r (lg0 r l.at_ l.first) l.many) := by
  obtain ⟨h1, h2, h3, h4, h5, h6, h7⟩ := h
  have e := ok_found hr h1 h2 h3 hn l.many
  have el : lgW (lg0 r l.at_ l.first) (toldW d r (lg0 r l.at_ l.first) l.many) = l := by
    unfold lgW lg0 at *
    obtain ⟨a, b, c, m⟩ := l
    simp only at h6 h7 ⊢
    rw [h6, h7]
  rw [el] at e
  exact e
theorem ok_rr {d : Dsk} {r : Rng} {l : Lg} {ts : List Txt} (hr : Copyhold.Disk.Right d) (hk : d.kept.length ≤ 200) (h : LogOk d r l ts) : rrT d r l := by
  have hm := h.many
  have hu := h.used
  have e : toldW d r (lg0 r l.at_ l.first) l.many = ts := by
    obtain ⟨x, hx⟩ := h.more hk
    rw [told0 hr h.ring h.place, hx, show l.many.toNat = ts.length from by omega, List.take_left]
  refine ⟨h.off, h.ring, h.place, by omega, by omega, ?_, ?_⟩
  · rw [e]; omega
  · rw [e]; omega
theorem ok_append {d : Dsk} {r : Rng} {l : Lg} {ts : List Txt} {s : Txt} (hr : Copyhold.Disk.Right d) (h : LogOk d r l ts) (hn : l.used + (needB s : Int) ≤ r.many) :
    Copyhold.Disk.Right (laidD d r l s) ∧ (laidD d r l s).kept = d.kept ∧ LogOk (laidD d r l s) r ⟨l.at_, l.used + (needB s : Int), l.first, l.many + 1⟩ (ts ++ [s]) := by
  have hu := h.used
  have hm := h.many
  have hn0 := h.num.1
  have hn1 := h.num.2
  obtain ⟨h1, h2, h3, h4⟩ := laid_sec (l := l) (s := s) hr h.ring (by omega) hn
  have hss : sumN (ts ++ [s]) = sumN ts + needB s := sumN_snoc ts s
  refine ⟨h1, h2, ?_, by rw [h2]; exact h.ring, h.place, ?_, ?_, ?_, ?_, h.num⟩
  · exact (layK_facts d r _ _ h.off _).2.2
  · rw [hss]; show l.used + _ = _; omega
  · rw [hss]; omega
  · show l.many + 1 = _; rw [List.length_append, hm]; rfl
  · show segN (laidD d r l s) r l.at_ _ = catR l.first _
    rw [hss, segN_add, h4 _ (by omega), h.seg, cat_append _ _ _ h.num, ← hu, h3]
    show _ = _ ++ (padR _ s ++ [])
    rw [List.append_nil]
    unfold nxtN
    rw [hm]
theorem ok_drop {d : Dsk} {r : Rng} {l : Lg} {ts : List Txt} (hr : Copyhold.Disk.Right d) (h : LogOk d r l ts) (m : Nat) (hm : m ≤ ts.length) :
    LogOk d r ⟨roundF r (l.at_ + (sumN (ts.take m) : Int)), l.used - (sumN (ts.take m) : Int), (l.first + (m : Int)) % 18446744073709551616, l.many - (m : Int)⟩ (ts.drop m) := by
  have hu := h.used
  have hmm := h.many
  have hn0 := h.num.1
  have hn1 := h.num.2
  have hd := sumN_drop ts m
  have hro := h.room
  have h3 : 0 ≤ r.from_ ∧ 1 ≤ r.many ∧ _ := h.ring
  have e : roundF r (l.at_ + (sumN (ts.take m) : Int)) = (l.at_ + (sumN (ts.take m) : Int)) % r.many := if_neg (by omega)
  have hin := ring_in h.ring (l.at_ + (sumN (ts.take m) : Int))
  refine ⟨h.off, h.ring, ?_, ?_, by omega, ?_, ?_, ⟨by show 0 ≤ _ % _; omega, by show _ % _ ≤ _; omega⟩⟩
  · rw [e]; exact ⟨hin.2.2.1, hin.2.2.2.1⟩
  · show l.used - _ = _; omega
  · show l.many - _ = _; rw [List.length_drop]; omega
  · show segN d r (roundF r _) _ = catR ((l.first + (m : Int)) % 18446744073709551616) _
    rw [e, segN_mod]
    have hs := h.seg
    rw [← hd, segN_add] at hs
    conv at hs => rhs; rw [← List.take_append_drop m ts, cat_append _ _ _ h.num]
    have := (List.append_inj hs (by rw [segN_len hr h.ring, catR_len])).2
    rw [this, List.length_take, Nat.min_eq_left hm]
end Go.Proofs.YtlcepboedifniaaGreatDoor

set_option linter.unusedVariables false
set_option linter.unusedSimpArgs false
namespace Go.Proofs.YtlcepboedifniaaGreatDoor
open Go Go.RowKit Copyhold Copyhold.Disk
theorem at_all {α : Type} {Q : α → Prop} {l : List α} {k : Nat} (h : AllTo (fun _ => Q) l k) (hk : l.length ≤ k) : ∀ x ∈ l, Q x := fun x hx => by
  obtain ⟨i, hi⟩ := List.getElem?_of_mem hx
  exact h.full hk i x hi
set_option maxRecDepth 100000 in
set_option maxHeartbeats 4000000 in
theorem rdRight_spec (d : Dsk) (hk : d.kept.length ≤ 8796093022208) (hw : d.w.length ≤ 8796093022208) : FSpec Tryz.prog 24 [.agg [.sl 1 false (d.kept.map txA), .sl 2 false (d.w.map putA), aB d.off]] (aB (dP (Copyhold.Disk.Right d))) := by
  exact spec_vd Tryz.func24 (let R : AV := aB (dP (Copyhold.Disk.Right d));
 .new fun b1 => .r 1 <| .u 3 [b1] <|
 .lm 7 d.kept txA <| .r 2 <| .bd 9 ((d.kept.length : Int) < 1) (fun p1 => .r 5 <| .r 1 <| .f (aB (dP (Copyhold.Disk.Right d))) [] (aB false) (by exact sF (fun h => by have := h.1; omega)))
 <| fun p1 => .u 3 [b1] <|
 .lm 12 d.kept txA <| .r 2 <| .bd 14 ((d.kept.length : Int) > 4096) (fun p2 => .r 1 <| .f (aB (dP (Copyhold.Disk.Right d))) [] (aB false) (by exact sF (fun h => by have := h.1; omega)))
 <| fun p2 => .r 1 <| let L1 : Lp (Nat) := ⟨fun a1 => ⟨[(1, .ptr 1 b1 0), (3, aI (a1 : Int))], [(1, .box b1 25 [.sl 1 false (d.kept.map txA), .sl 2 false (d.w.map putA), aB d.off])]⟩, fun a1 => d.kept.length - a1, fun a1 => AllTo (fun _ => fun x : Txt => x.length = 64) d.kept a1⟩
 .lp L1 0 (show AllTo (fun _ => fun x : Txt => x.length = 64) d.kept 0 from AllTo.zero _ _) [(3, aI 0)] [] ⟨Sub.refl _, sO, trivial⟩ bb1 fun a1 ha1 =>
 (fun (k : Nat) (hH1 : AllTo (fun _ => fun x : Txt => x.length = 64) d.kept k) => .u 4 [b1] <|
 .lm 18 d.kept txA <| .r 1 <| .bd 19 ((k : Int) < (d.kept.length : Int)) (fun p3 => .u 3 [b1] <|
 .idxM d.kept txA k (m := (k : Int)) rfl (by omega) fun x1 hx1 =>
 .r 3 <| .bn 28 ((x1).length : Int) 64 (fun p4 => .r 1 <| .f (aB (dP (Copyhold.Disk.Right d))) [] (aB false) (by exact sF (fun h => by have := h.2.1 x1 (List.mem_of_getElem? hx1); omega)))
 <| fun p4 => .run 3 [rng .i64 ((k : Int) + 1)] ⟨rng64 (by omega) (by omega), trivial⟩ <|
 .bk L1 k (k + 1) (show AllTo (fun _ => fun x : Txt => x.length = 64) d.kept (k + 1) from (hH1.step hx1 (by omega))) (show d.kept.length - (k + 1) < d.kept.length - k from (by omega)) [(3, aI ((k : Int) + 1))] [] ⟨Sub.refl _, sO, trivial⟩ bb1)
 <| fun p3 => .r 1 <| let L2 : Lp (Nat) := ⟨fun a2 => ⟨[(1, .ptr 1 b1 0), (4, aI (a2 : Int))], [(1, .box b1 25 [.sl 1 false (d.kept.map txA), .sl 2 false (d.w.map putA), aB d.off])]⟩, fun a2 => d.w.length - a2, fun a2 => AllTo (fun _ => fun p : Int × Txt => (0 ≤ p.1 ∧ p.1 < (d.kept.length : Int)) ∧ p.2.length = 64) d.w a2⟩
 .lp L2 0 (show AllTo (fun _ => fun p : Int × Txt => (0 ≤ p.1 ∧ p.1 < (d.kept.length : Int)) ∧ p.2.length = 64) d.w 0 from AllTo.zero _ _) [(4, aI 0)] [] ⟨Sub.refl _, sO, trivial⟩ bb1 fun a2 ha2 =>
 (fun (j : Nat) (hH2 : AllTo (fun _ => fun p : Int × Txt => (0 ≤ p.1 ∧ p.1 < (d.kept.length : Int)) ∧ p.2.length = 64) d.w j) => .u 4 [b1] <|
 .lm 32 d.w putA <| .r 1 <| .bd 33 ((j : Int) < (d.w.length : Int)) (fun p5 => .ord [0, 1, 2, 3, 4, 5, 6, 7, 8, 9, 10, 11, 12, 13, 14, 15, 16, 17, 18, 19, 20, 21, 22, 23, 24, 25, 26, 27, 28] <| .u 3 [b1] <|
 .idxM d.w putA j (m := (j : Int)) rfl (by omega) fun x2 hx2 =>
 .r 4 <| .bd 43 (x2.1 < 0) (fun p6 => .r 21 <| .r 1 <| .f (aB (dP (Copyhold.Disk.Right d))) [] (aB false) (by exact sF (fun h => by have := h.2.2 x2 (List.mem_of_getElem? hx2); omega)))
 <| fun p6 => .u 3 [b1] <|
 .idx j (m := (j : Int)) (xs := d.w.map putA) (e := putA x2) rfl (map_some hx2) <|
 .u 5 [b1] <|
 .lm 52 d.kept txA <| .r 3 <| .bd 55 (x2.1 ≥ (d.kept.length : Int)) (fun p7 => .r 9 <| .r 1 <| .f (aB (dP (Copyhold.Disk.Right d))) [] (aB false) (by exact sF (fun h => by have := h.2.2 x2 (List.mem_of_getElem? hx2); omega)))
 <| fun p7 => .u 3 [b1] <|
 .idx j (m := (j : Int)) (xs := d.w.map putA) (e := putA x2) rfl (map_some hx2) <|
 .r 5 <| .bn 64 ((x2.2).length : Int) 64 (fun p8 => .r 1 <| .f (aB (dP (Copyhold.Disk.Right d))) [] (aB false) (by exact sF (fun h => by have := h.2.2 x2 (List.mem_of_getElem? hx2); omega)))
 <| fun p8 => .run 3 [rng .i64 ((j : Int) + 1)] ⟨rng64 (by omega) (by omega), trivial⟩ <|
 .bk L2 j (j + 1) (show AllTo (fun _ => fun p : Int × Txt => (0 ≤ p.1 ∧ p.1 < (d.kept.length : Int)) ∧ p.2.length = 64) d.w (j + 1) from (hH2.step hx2 (⟨⟨by omega, by omega⟩, by omega⟩))) (show d.w.length - (j + 1) < d.w.length - j from (by omega)) [(4, aI ((j : Int) + 1))] [] ⟨Sub.refl _, sO, trivial⟩ bb1)
 <| fun p5 => .r 1 <| .f R [] (aB true) (by exact sT ⟨⟨by omega, by omega⟩, at_all hH1 (by omega), at_all hH2 (by omega)⟩)) a2 ha2) a1 ha1)
theorem doneL_put {l : List Txt} {ws : List (Int × Txt)} {k : Nat} {x : Int × Txt} (h : ws[k]? = some x) : doneL l (ws.take (k + 1)) = (doneL l (ws.take k)).set x.1.toNat x.2 := by
  rw [List.take_add_one, h, doneL_append]
  rfl
set_option maxRecDepth 100000 in
set_option maxHeartbeats 4000000 in
theorem rimage_spec (d : Dsk) (hr : Copyhold.Disk.Right d) (hw : d.w.length ≤ 8796093022208) : FSpec Tryz.prog 36 [.agg [.sl 1 false (d.kept.map txA), .sl 2 false (d.w.map putA), aB d.off]] (.sl 1 false ((imageL d).map txA)) := by
  have hr1 := hr.1
  exact spec_vd Tryz.func36 (
 .new fun b1 => .r 1 <| .lit0 fun V1 => .u 2 [b1] <|
 .app 16 V1 ([] : List (List AV)) (d.kept.map txA) (by simp only [List.length_map, List.length_nil, List.length_append]; omega) (by simp only [List.length_map, List.length_nil, List.length_append]; omega) fun V2 =>
 .r 1 <| .r 1 <| let L1 : Lp (Nat × Value) := ⟨fun a1 => ⟨[(1, .ptr 1 b1 0), (4, aI (a1.1 : Int)), (3, .rw 5 a1.2 ((doneL d.kept (d.w.take a1.1)).length))], [(1, .box b1 25 [.sl 1 false (d.kept.map txA), .sl 2 false (d.w.map putA), aB d.off]), (5, .row a1.2 9 1 ((doneL d.kept (d.w.take a1.1)).map txA))]⟩, fun a1 => d.w.length - a1.1, fun a1 => a1.1 ≤ d.w.length⟩
 .lp L1 (0, V2) (show 0 ≤ d.w.length from Nat.zero_le _) [(4, aI 0), (3, .rw 5 V2 (([] : List (List AV)).length + (d.kept.map txA).length))] [(5, .row V2 9 1 (([] : List (List AV)) ++ (d.kept.map txA)))] ⟨Sub.refl _, sO, Sub.of_eq (congrArg (AV.rw 5 V2) (by simp [doneL])), trivial⟩ ⟨sB, ⟨_, rfl, SubB.of_eq (by simp [doneL])⟩, trivial⟩ fun a1 ha1 =>
 (fun (k : Nat) (V : Value) (hH1 : k ≤ d.w.length) => .u 4 [b1] <|
 .lm 12 d.w putA <| .r 1 <| .bd 13 ((k : Int) < (d.w.length : Int)) (fun p1 => .st (rowR 5) (V, 9, 1, (doneL d.kept (d.w.take k)).map txA) (fun _ σ => σ) (rule_shape 5 (by first | omega | (simp only [List.length_map, doneL_len]; omega))) fun a2r =>
 .ord [0, 1, 2, 3, 4, 5, 6, 7, 8, 9, 10, 11, 12, 13, 14] <| .u 4 [b1] <|
 .idxM d.w putA k (m := (k : Int)) rfl (by omega) fun x1 hx1 =>
 have hre := (hr.2.2 x1 (List.mem_of_getElem? hx1)).1; have hlI := doneL_len d.kept (d.w.take k); .u 5 [b1] <|
 .idx k (m := (k : Int)) (xs := d.w.map putA) (e := putA x1) rfl (map_some hx1) <|
 .r 2 <| .op (ixR Tryz.prog) (5, V, (doneL d.kept (d.w.take k)).length, 1, x1.1, some 29) (fun (_ : Unit) σ => σ.put (some 29) (.ep 5 V 1 ((x1.1).toNat) 0)) (rule_ixR ((x1.1).toNat) a2r.2.1 (by omega) (by first | omega | (simp only [List.length_map, doneL_len]; omega))) fun _ =>
 .ex (some_of (l := (doneL d.kept (d.w.take k))) (k := (x1.1).toNat) (by first | omega | (simp only [List.length_map, doneL_len]; omega))) fun x2 hx2 =>
 .op (stR Tryz.prog) (5, V, 1, (x1.1).toNat, 0, V, 9, 1, (doneL d.kept (d.w.take k)).map txA, [aS x1.2], none) (fun (_ : Unit) σ => (σ.put (none) .any).setB 5 (.row V 9 1 (((doneL d.kept (d.w.take k)).map txA).set ((x1.1).toNat) ((txA x2).take 0 ++ [aS x1.2] ++ (txA x2).drop (0 + [aS x1.2].length))))) (rule_stR (txA x2) (by rw [List.getElem?_map, hx2]; rfl) (Nat.le_of_ble_eq_true rfl)) fun _ =>
 .run 3 [rng .i64 ((k : Int) + 1)] ⟨rng64 (by omega) (by omega), trivial⟩ <|
 .bk L1 (k, V) ((k + 1), V) (show (k + 1) ≤ d.w.length from (by show _ ≤ _; omega)) (show d.w.length - (k + 1) < d.w.length - k from (by omega)) [(4, aI ((k : Int) + 1)), (3, .rw 5 V ((doneL d.kept (d.w.take k)).length))] [(5, .row V 9 1 (((doneL d.kept (d.w.take k)).map txA).set ((x1.1).toNat) ((txA x2).take 0 ++ [aS x1.2] ++ (txA x2).drop (0 + [aS x1.2].length))))] ⟨Sub.refl _, sO, Sub.of_eq (congrArg (AV.rw 5 V) (by simp [doneL_len])), trivial⟩ ⟨sB, ⟨_, rfl, SubB.of_eq (by rw [doneL_put hx1]; simp [txA, List.map_set])⟩, trivial⟩)
 <| fun p1 => .r 2 <| .frz 5 [2] [] [V = V, (doneL d.kept (d.w.take k)).length = ((doneL d.kept (d.w.take k)).map txA).length] ⟨rfl, (by first | rfl | (simp; done) | (simp; omega)), trivial⟩ <|
 .f (.sl 1 false ((imageL d).map txA)) [] (.sl 1 false ((doneL d.kept (d.w.take k)).map txA)) (by exact Sub.of_eq (by rw [Copyhold.Disk.Right.image hr, List.take_of_length_le (by omega)]))) a1.1 a1.2 ha1)
end Go.Proofs.YtlcepboedifniaaGreatDoor

set_option linter.unusedVariables false
set_option linter.unusedSimpArgs false
namespace Go.Proofs.YtlcepboedifniaaGreatDoor
open Go Go.RowKit Copyhold Copyhold.Disk
def cvB (ops : Array Oper) (s : LS) (i : Nat) : Option (TypeId × TypeId × Nat × Value × Value × TypeId × Nat × List (List AV) × Option Tmp) :=
  match opAt ops s i with
  | some o =>
    match o.op with
    | .convert a b y =>
      match s.ev y with
      | .rw q V n =>
        match bget s.bx q with
        | some (.row V' e k xs) => some (a, b, n, V, V', e, k, xs, o.dst)
        | _ => none
      | _ => none
    | _ => none
  | none => none
theorem rule_cvB {P : Program} {a b e : TypeId} {n : Nat} {V : Value} {xs : List (List AV)} {d : Option Tmp} (l : List UInt8) (hx : xs = l.map fun c => [AV.val (.int .u8 (c.toNat : Int))]) (hn : n = l.length) (h0 : 0 < n)
    (hs : P.underlying a = some (.slice e)) (he : P.underlying e = some (.int .u8)) (hd : P.underlying b = some .string) :
    ∀ (ops : Array Oper) (i : Nat) (s : LS) (K : FS → Prop) (rest : List Nat), cvB ops s i = some (a, b, n, V, V, e, 1, xs, d) → (∀ _ : Unit, SeqR P ops K rest (s.put d (aS l)).fs) → SeqR P ops K (i :: rest) s.fs := by
  intro ops i s K rest h kk
  unfold cvB at h
  split at h
  · rename_i o ho
    obtain ⟨hi, hg⟩ := opAt_ok ho
    split at h
    · rename_i a' b' y hop
      split at h
      · rename_i q V1 n1 ha
        split at h
        · rename_i V2 e2 k2 xs2 hb
          simp only [Option.some.injEq, Prod.mk.injEq] at h
          obtain ⟨rfl, rfl, rfl, rfl, rfl, rfl, rfl, rfl, rfl⟩ := h
          refine ⟨o, hi, .inr ⟨hg, .inl ⟨aS l, .inr ⟨by rw [hop]; rfl, fun D w ρ hops hbx => ?_⟩, by rw [LS.fs_put]; exact kk ()⟩⟩⟩
          have hv := arg_of hops y (by simp [hop, Op.operands])
          rw [ha] at hv
          generalize hvv : ρ y = v at hv
          have hbq := hbx q _ hb
          cases hv with
          | rw id n cap A =>
            subst hn
            have hA : ∃ g, A = some ⟨g, 0, none⟩ := by
              obtain ⟨hk, us, hown, hus, hru⟩ := hbq
              rcases hown.2 with ⟨hV, hl⟩ | ⟨g, cap', cur, hV, _⟩
              · exfalso
                simp only [Value.slice.injEq] at hV
                omega
              · exact ⟨g, by simp only [Value.slice.injEq] at hV; exact hV.1⟩
            obtain ⟨g, rfl⟩ := hA
            refine ⟨.string ⟨l.toArray⟩, ?_, .val _⟩
            have hrun := run_convert_bytes_back (P := P) w a' b' e2 ⟨g, 0, none⟩ cap l hs he hd (fun j hj => by
              have hc := row_cells hbq (j := j) (cs := [AV.val (.int .u8 (l[j].toNat : Int))]) (by rw [hx, List.getElem?_map, List.getElem?_eq_getElem hj]; rfl)
              obtain ⟨v, h1, _, h3⟩ := hc 0 _ rfl
              cases h3
              rw [add_plain', Nat.zero_add]
              simpa using h1)
            simp [execOp, hop, hvv, hrun]
        · cases h
      · cases h
    · cases h
  · cases h
theorem filled_spec (s : Txt) (h : s.length ≤ 64) : FSpec Tryz.prog 40 [aS s] (aS (padL s)) := fspec_plain (fun _ _ => .val _) fun D w vs hv => by
  obtain ⟨u, rfl, hu⟩ := ra_one hv
  cases hu
  exact (ref04_filled s w h).mono fun e w' hh => ⟨hh.1, by rw [hh.2]; exact Below.refl _ _⟩
def zS : Txt := padL []
set_option maxRecDepth 100000 in
set_option maxHeartbeats 4000000 in
theorem new_spec (m : Nat) (h1 : 1 ≤ m) (h2 : m ≤ 4096) : FSpec Tryz.prog 23 [aI (m : Int)] (.tup [.agg [.sl 1 false ((List.replicate m zS).map txA), .sl 2 false ([] : List (List AV)), aB false], aI 0]) := by
  exact spec_vd Tryz.func23 (
 .new fun b1 => .r 1 <| .r 3 <| .is 9 (show (decide ((m : Int) < 1)) = false from (decide_eq_false (by omega))) <| .r 3 <| .is 12 (show (decide ((m : Int) > 4096)) = false from (decide_eq_false (by omega))) <| .r 1 <| .new fun b2 => .u 1 [b2] <|
 .call (filled_spec [] (by decide)) <|
 .r 1 <| .r 1 <| .rowNilB 100 4 0 9 1 <| let L1 : Lp (Nat × Value) := ⟨fun a1 => ⟨[(0, aI (m : Int)), (2, .ptr 2 b1 0), (4, .ptr 4 b2 0), (5, aS zS), (6, aI (a1.1 : Int))], [(2, .box b1 25 [aN, aN, aB false]), (4, .box b2 25 [.rw 100 a1.2 ((List.replicate a1.1 zS).length), aN, aB false]), (100, .row a1.2 9 1 ((List.replicate a1.1 zS).map txA))]⟩, fun a1 => m - a1.1, fun a1 => a1.1 ≤ m⟩
 .lp L1 (0, .slice none 0 0) (show 0 ≤ m from Nat.zero_le _) [(6, aI 0)] [(4, .box b2 25 [.rw 100 (.slice none 0 0) 0, aN, aB false]), (100, .row (.slice none 0 0) 9 1 ([]))] ⟨Sub.refl _, Sub.refl _, Sub.refl _, Sub.refl _, sO, trivial⟩ ⟨sB, ⟨_, rfl, SubB.of_eq (by simp)⟩, ⟨_, rfl, SubB.of_eq (by simp)⟩, trivial⟩ fun a1 ha1 =>
 (fun (k : Nat) (V : Value) (hH1 : k ≤ m) => .r 3 <| .bd 18 ((k : Int) < (m : Int)) (fun p1 => .u 4 [b2] <|
 .app 16 V ((List.replicate k zS).map txA) ([[aS zS]]) (by simp only [List.length_map, List.length_replicate, List.length_cons, List.length_nil, List.length_append]; omega) (by simp only [List.length_map, List.length_replicate, List.length_cons, List.length_nil, List.length_append]; omega) fun V1 =>
 .u 2 [b2] <|
 .run 3 [rng .i64 ((k : Int) + 1)] ⟨rng64 (by omega) (by omega), trivial⟩ <|
 .bk L1 (k, V) ((k + 1), V1) (show (k + 1) ≤ m from (by show _ ≤ _; omega)) (show m - (k + 1) < m - k from (by omega)) [(6, aI ((k : Int) + 1))] [(4, .box b2 25 [.rw 100 V1 (((List.replicate k zS).map txA).length + ([[aS zS]] : List (List AV)).length), aN, aB false]), (100, .row V1 9 1 (((List.replicate k zS).map txA) ++ ([[aS zS]])))] ⟨Sub.refl _, Sub.refl _, Sub.refl _, Sub.refl _, sO, trivial⟩ ⟨sB, ⟨_, rfl, SubB.of_eq (by simp)⟩, ⟨_, rfl, SubB.of_eq (by rw [List.replicate_succ']; simp [txA, zS])⟩, trivial⟩)
 <| fun p1 => .u 3 [b2, b1] <|
 .frz 100 [2, 3] [2] [V = V, (List.replicate k zS).length = ((List.replicate k zS).map txA).length] ⟨rfl, (by first | rfl | (simp; done) | (simp; omega)), trivial⟩ <|
 .f (.tup [.agg [.sl 1 false ((List.replicate m zS).map txA), .sl 2 false ([] : List (List AV)), aB false], aI 0]) [b1] (.tup [.agg [.sl 1 false ((List.replicate k zS).map txA), aN, aB false], aI 0]) (by exact Sub.tups ⟨Sub.aggs ⟨Sub.of_eq (by rw [show m = k from by omega]), Sub.nil _ _, Sub.refl _, trivial⟩, Sub.refl _, trivial⟩)) a1.1 a1.2 ha1)
end Go.Proofs.YtlcepboedifniaaGreatDoor

set_option linter.unusedVariables false
set_option linter.unusedSimpArgs false
namespace Go.Proofs.YtlcepboedifniaaGreatDoor
open Go Go.RowKit Copyhold Copyhold.Disk
theorem rngb {z : Int} (h1 : 0 ≤ z) (h2 : z ≤ 255) : rng .u8 z := ⟨h1, h2⟩
def u8A (c : UInt8) : List AV := [AV.val (.int .u8 (c.toNat : Int))]
theorem num8_at {n : Int} (h0 : 0 ≤ n) {k : Nat} (hk : k < 8) : ∃ c, (num8 n)[k]? = some c ∧ (c.toNat : Int) = n / 256 ^ k % 256 := by
  refine ⟨UInt8.ofNat (n.toNat / 2 ^ (8 * k) % 256), ?_, ?_⟩
  · unfold num8
    rw [List.getElem?_map, List.getElem?_range hk]
    rfl
  · rw [UInt8.toNat_ofNat', Nat.pow_mul]
    obtain ⟨m, rfl⟩ := Int.eq_ofNat_of_zero_le h0
    show (((m / (2 ^ 8) ^ k % 256 % 2 ^ 8 : Nat)) : Int) = (m : Int) / 256 ^ k % 256
    rw [Nat.mod_mod]
    exact (Int.natCast_emod _ _).trans (congrArg (· % 256) ((Int.natCast_ediv _ _).trans (congrArg ((m : Int) / ·) (Int.natCast_pow _ _))))
theorem num8_step {n : Int} (h0 : 0 ≤ n) {k : Nat} (hk : k < 8) : ((num8 n).take k).map u8A ++ [[AV.val (.int .u8 (n / 256 ^ k % 256))]] = ((num8 n).take (k + 1)).map u8A := by
  obtain ⟨c, h1, h2⟩ := num8_at h0 hk
  rw [List.take_add_one, h1, List.map_append, ← h2]
  rfl
theorem quo_step {n : Int} (k : Nat) : n / 256 ^ k / 256 = n / 256 ^ (k + 1) := by
  rw [Int.ediv_ediv_of_nonneg (by exact Int.pow_nonneg (by omega)), Int.pow_succ]
theorem quo_bd {n : Int} (h0 : 0 ≤ n) (k : Nat) : 0 ≤ n / 256 ^ k ∧ n / 256 ^ k ≤ n := by
  have hp : (0 : Int) < 256 ^ k := Int.pow_pos (by omega)
  exact ⟨Int.ediv_nonneg h0 (by omega), Int.ediv_le_self _ h0⟩
set_option maxRecDepth 100000 in
set_option maxHeartbeats 4000000 in
theorem rrecord_spec (n : Int) (s : Txt) (hn : U64 n) (hs : s.length ≤ 1000000) : FSpec Tryz.prog 13 [.val (.int .u64 n), aS s] (aS (recB n s)) := by
  have ht := textB_len s (by omega)
  have h8 := num8_len n
  exact spec_vd Tryz.func13 (
 .r 1 <| .r 1 <| .r 1 <| .rowNil 5 5 5 1 <| let L1 : Lp (Nat × Value) := ⟨fun a1 => ⟨[(1, aS s), (0, .val (.int .u64 (n / 256 ^ a1.1))), (5, .rw 5 a1.2 (((num8 n).take a1.1).length)), (6, aI (a1.1 : Int))], [(5, .row a1.2 5 1 (((num8 n).take a1.1).map u8A))]⟩, fun a1 => 8 - a1.1, fun a1 => a1.1 ≤ 8⟩
 .lp L1 (0, .slice none 0 0) (show 0 ≤ 8 from Nat.zero_le _) [(0, .val (.int .u64 n)), (5, .rw 5 (.slice none 0 0) 0), (6, aI 0)] [(5, .row (.slice none 0 0) 5 1 ([]))] ⟨Sub.refl _, Sub.of_eq (congrArg (fun x : Int => AV.val (.int .u64 x)) (by simp)), Sub.refl _, sO, trivial⟩ ⟨⟨_, rfl, SubB.refl _⟩, trivial⟩ fun a1 ha1 =>
 (fun (k : Nat) (V : Value) (hH1 : k ≤ 8) => have hqb := quo_bd hn.1 k; have hnl := num8_len n; have hn2 := hn.2; .r 2 <| .bd 8 ((k : Int) < 8) (fun p1 => .r 2 <| .binV .rem 28 (remU (a := (n / 256 ^ k)) (b := 256) (by omega) (by omega) (by omega)) <|
 .op cvR (28, 5, .int .u64 ((n / 256 ^ k) % 256), some 14) (fun (_ : Unit) σ => σ.put (some 14) (.val (.int .u8 ((n / 256 ^ k) % 256)))) (rule_cv (conv_int (by kernel_rfl) (by kernel_rfl) (rngb (by omega) (by omega)))) fun _ =>
 .r 1 <| .app 1 V (((num8 n).take k).map u8A) ([[.val (.int .u8 ((n / 256 ^ k) % 256))]]) (by simp only [List.length_map, List.length_cons, List.length_nil, List.length_append, List.length_take]; omega) (by simp only [List.length_map, List.length_cons, List.length_nil, List.length_append, List.length_take]; omega) fun V1 =>
 .r 1 <| .r 1 <| .binV .quo 28 (quoU (a := (n / 256 ^ k)) (b := 256) (by omega) (by omega) (by omega)) <|
 .r 1 <| .run 3 [rng .i64 ((k : Int) + 1)] ⟨rng64 (by omega) (by omega), trivial⟩ <|
 .bk L1 (k, V) ((k + 1), V1) (show (k + 1) ≤ 8 from (by show _ ≤ _; omega)) (show 8 - (k + 1) < 8 - k from (by omega)) [(0, .val (.int .u64 ((n / 256 ^ k) / 256))), (5, .rw 5 V1 ((((num8 n).take k).map u8A).length + ([[.val (.int .u8 ((n / 256 ^ k) % 256))]] : List (List AV)).length)), (6, aI ((k : Int) + 1))] [(5, .row V1 5 1 ((((num8 n).take k).map u8A) ++ ([[.val (.int .u8 ((n / 256 ^ k) % 256))]])))] ⟨Sub.refl _, Sub.of_eq (congrArg (fun x : Int => AV.val (.int .u64 x)) (quo_step k)), Sub.of_eq (congrArg (AV.rw 5 V1) (by simp [num8_len]; omega)), sO, trivial⟩ ⟨⟨_, rfl, SubB.of_eq (congrArg (Bx.row V1 5 1) (num8_step hn.1 (by omega)))⟩, trivial⟩)
 <| fun p1 => have hT : (num8 n).take k = num8 n := List.take_of_length_le (by omega); have hTl : ((num8 n).take k).length = 8 := (by rw [hT]; exact h8); .ord [0, 1, 2, 3, 4, 5, 6] <| .r 1 <| .op cvB (63, 9, ((num8 n).take k).length, V, V, 5, 1, ((num8 n).take k).map u8A, some 20) (fun (_ : Unit) σ => σ.put (some 20) (aS ((num8 n).take k))) (rule_cvB ((num8 n).take k) (by rfl) rfl (by rw [List.length_take, num8_len]; omega) rfl rfl rfl) fun _ =>
 .r 1 <| .call (rtext_spec s (by omega)) <|
 .run 1 [((num8 n).take k).length + (textB s).length ≤ 9223372036854775807] ⟨(by omega), trivial⟩ <|
 .call (rput_spec (((num8 n).take k) ++ textB s) (by rw [List.length_append, List.length_take, num8_len]; omega)) <|
 .r 1 <| .f (aS (recB n s)) [] (aS (putB (((num8 n).take k) ++ textB s))) (by exact Sub.of_eq (by rw [hT]; rfl))) a1.1 a1.2 ha1)
set_option maxRecDepth 100000 in
set_option maxHeartbeats 4000000 in
theorem rneed_spec (s : Txt) (hs : s.length ≤ 1000000) : FSpec Tryz.prog 15 [aS s] (aI (needB s : Int)) := by
  have ht := textB_len s (by omega)
  have hl := recB_len 0 s
  exact spec_vd Tryz.func15 (
 .r 1 <| .r 1 <| .call (rrecord_spec 0 s ⟨by omega, by omega⟩ hs) <|
 .run 2 [rng .i64 (((recB 0 s).length : Int) + 63)] ⟨rng64 (by omega) (by omega), trivial⟩ <|
 .binV .quo 3 (quoN (a := ((recB 0 s).length : Int) + 63) (b := 64) (by omega) (by omega) (by omega)) <|
 .r 1 <| .f (aI (needB s : Int)) [] (aI ((((recB 0 s).length : Int) + 63) / 64)) (by exact Sub.of_eq (congrArg aI (by unfold needB sec; omega))))
set_option maxRecDepth 100000 in
set_option maxHeartbeats 4000000 in
theorem may_spec (d : Dsk) (r : Rng) (okr : OkR r) (hk : d.kept.length ≤ 1000000) : FSpec Tryz.prog 25 [.agg [.sl 1 false (d.kept.map txA), .sl 2 false (d.w.map putA), aB d.off], .agg [aI r.from_, aI r.many]] (aB (dP (ringP d.kept.length r))) := by
  obtain ⟨⟨o1, o2⟩, o3, o4⟩ := okr
  exact spec_vd Tryz.func25 (let R : AV := aB (dP (ringP d.kept.length r));
 .new fun b1 => .new fun b2 => .r 1 <| .u 4 [b2] <|
 .bd 8 (r.from_ ≥ 0) (fun p1 => .u 5 [b2] <|
 .bd 13 (r.many ≥ 1) (fun p2 => .u 5 [b2, b1] <|
 .lm 18 d.kept txA <| .r 3 <| .bd 21 (r.many ≤ (d.kept.length : Int)) (fun p3 => .u 5 [b2, b1] <|
 .lm 26 d.kept txA <| .run 6 [b2 = b2, rng .i64 ((d.kept.length : Int) - r.many)] ⟨rfl, rng64 (by omega) (by omega), trivial⟩ <|
 .f R [] (aB (decide (r.from_ ≤ ((d.kept.length : Int) - r.many)))) (by
    refine sE ?_
    unfold ringP
    simp only [decide_eq_true_eq]
    constructor <;> intro h <;> first | omega | exact ⟨by omega, by omega, by omega, by omega⟩))
 <| fun p3 => .r 11 <| .f (aB (dP (ringP d.kept.length r))) [] (aB false) (by exact sF (fun h => by unfold ringP at h; omega)))
 <| fun p2 => .r 19 <| .f (aB (dP (ringP d.kept.length r))) [] (aB false) (by exact sF (fun h => by unfold ringP at h; omega)))
 <| fun p1 => .r 24 <| .f (aB (dP (ringP d.kept.length r))) [] (aB false) (by exact sF (fun h => by unfold ringP at h; omega)))
end Go.Proofs.YtlcepboedifniaaGreatDoor
