/- tree.Text; what is told is taken, what is taken is told. -/
import Derived.Test.YtgcjfhgkkgocpaaMrgS
set_option linter.unusedVariables false
set_option linter.unusedSimpArgs false
namespace Go.Proofs.Ytgcjfhgkkgocpaa
open Go Go.RowKit Copyhold Copyhold.Name
theorem vals_of {D : Nat → Prop} {w : World} {vals us : List Value} (hl : us.length = vals.length) (h : ∀ (j : Nat) (a : AV) (u : Value), (vals.map AV.val)[j]? = some a → us[j]? = some u → Ra D w a u) : us = vals := by
  apply List.ext_getElem?
  intro j
  by_cases hj : j < vals.length
  · have h1 := List.getElem?_eq_getElem hj
    have h2 := List.getElem?_eq_getElem (l := us) (i := j) (by omega)
    have := h j (.val vals[j]) us[j] (by rw [List.getElem?_map, h1]; rfl) h2
    rw [h1, h2]
    generalize us[j] = u at this
    cases this
    rfl
  · rw [List.getElem?_eq_none (by omega), List.getElem?_eq_none (by omega)]
theorem entA_flat (l : List Ent) : (l.map entA).flatten = ((l.map fun e => ((e.name, e.ino) : NEnt)).flatMap Copyhold.Name.entC).map AV.val := by
  induction l with
  | nil => rfl
  | cons e r ih =>
    simp only [List.map_cons, List.flatten_cons, List.flatMap_cons, List.map_append, ih]
    rfl
theorem txA_flat (l : List Txt) : (l.map txA).flatten = (l.map strV).map AV.val := by
  induction l with
  | nil => rfl
  | cons e r ih =>
    simp only [List.map_cons, List.flatten_cons, ih]
    rfl
theorem node_of_ra {D : Nat → Prop} {w : World} {x : Nod} {v : Value} (h : Ra D w (.agg (nodA x)) v) : NodeV w v (nodI x) := by
  cases h with
  | agg cs vs h1 h2 h3 =>
    obtain ⟨a, b, c, d, e, rfl⟩ : ∃ a b c d e, vs = #[a, b, c, d, e] := by
      obtain ⟨l⟩ := vs
      match l, h1 with
      | [a, b, c, d, e], _ => exact ⟨a, b, c, d, e, rfl⟩
    have r0 := h3 0 _ a rfl rfl
    have r1 := h3 1 _ b rfl rfl
    have r2 := h3 2 _ c rfl rfl
    have r3 := h3 3 _ d rfl rfl
    have r4 := h3 4 _ e rfl rfl
    cases r0; cases r1; cases r2; cases r3
    obtain ⟨us, hsl, hus, hru⟩ := sl_of_ra r4
    rw [entA_flat] at hru
    have hsl0 := hsl
    obtain ⟨A, cc, rfl, hc, hl, hh⟩ := hsl0
    have hlen : ∀ l : List NEnt, (l.flatMap Copyhold.Name.entC).length = l.length * 2 := fun l => by
      induction l with
      | nil => rfl
      | cons y r ih => simp only [List.flatMap_cons, List.length_append, ih, List.length_cons]; simp [Copyhold.Name.entC]; omega
    have e := vals_of (by rw [hlen, hl]; simp) hru
    subst e
    simp only [List.length_map] at hsl ⊢
    have hn : (nodI x).l.length = x.l.length := by simp [nodI]
    refine ⟨A, cc, ?_, ?_⟩
    · rw [hn]; rfl
    · show Sl w 2 _ (nodI x).l.length _
      rw [hn]
      exact hsl
theorem row_of_ra {D : Nat → Prop} {w : World} {t : Bool} {xs : List Txt} {v : Value} (h : Ra D w (.sl 1 t (xs.map txA)) v) : Row w v (xs.map strV) := by
  obtain ⟨us, hsl, hus, hru⟩ := sl_of_ra h
  rw [txA_flat] at hru
  obtain ⟨A, c, rfl, hc, hl, hh⟩ := hsl
  have e := vals_of (by rw [hl]; simp) hru
  subst e
  by_cases h0 : 0 < (xs.map txA).length
  · obtain ⟨b, off, rfl, hb, hcell⟩ := hh h0
    simp only [List.length_map] at h0 hc ⊢
    exact .inr ⟨b, off, c, by simp, by simpa using h0, by simpa using hc, hb, hcell⟩
  · have : xs = [] := by simpa using h0
    subst this
    exact .inl ⟨A, c, rfl, rfl⟩
theorem fold_spec (n : Int) (h : I64 n) : FSpec Try.prog 39 [aI n] (.val (.int .u64 (foldN n))) := fspec_plain (fun _ _ => .val _) fun D w vs hv => by
  obtain ⟨u, rfl, hu⟩ := ra_one hv
  cases hu
  exact (octet_Fold n w h.1 h.2).mono fun e w' ⟨g1, g2⟩ => ⟨g1, g2 ▸ Below.refl _ _⟩
theorem num_spec (n : Int) (h0 : 0 ≤ n) (h1 : n ≤ 18446744073709551615) : FSpec Try.prog 38 [.val (.int .u64 n)] (aS (numB n.toNat)) := fspec_plain (fun _ _ => .val _) fun D w vs hv => by
  obtain ⟨u, rfl, hu⟩ := ra_one hv
  cases hu
  exact octet_Num n w h0 h1
theorem numN_spec (n : Nat) (h1 : n ≤ 18446744073709551615) : FSpec Try.prog 38 [.val (.int .u64 (n : Int))] (aS (numB n)) := by
  have h := num_spec (n : Int) (by omega) (by omega)
  rw [Int.toNat_natCast] at h
  exact h
theorem nodI_ok {n : Nod} (h : OkN n) (hp : nodP n) : OkNd (nodI n) := by
  refine ⟨h.1, h.2.1, h.2.2.1, h.2.2.2.1, fun x hx => ?_, ?_⟩
  · obtain ⟨e, he, rfl⟩ := List.mem_map.1 hx
    have := h.2.2.2.2.2 e he
    exact ⟨this.1, this.2⟩
  · show (n.l.map _).length ≤ _
    rw [List.length_map]
    rcases hp.2.2.2 with g | g
    · have := g.2.2.1; omega
    · rw [g.2.2]; simp
theorem nodI_right {n : Nod} (hp : nodP n) : rightN (nodI n) = true := (right_iff _).2 (by rw [nodO_I]; exact hp)
theorem nodI_parts {n : Nod} (h : OkN n) (hp : nodP n) : (nodI n).text.length ≤ 4096 ∧ (nodI n).l.length ≤ 256 ∧ ∀ x ∈ (nodI n).l, EntT x := right_parts (nodI_right hp) (nodI_ok h hp)
def nodT (n : Nod) : Txt := nodeB (nodI n)
theorem ntext_spec (n : Nod) (h : OkN n) (hp : nodP n) : FSpec Try.prog 40 [.agg (nodA n)] (aS (nodT n)) := fspec_plain (fun _ _ => .val _) fun D w vs hv => by
  obtain ⟨u, rfl, hu⟩ := ra_one hv
  obtain ⟨g1, g2, g3⟩ := nodI_parts h hp
  exact node_Text (nodI n) u w (node_of_ra hu) (nodI_ok h hp) (fun x hx => Nat.le_trans (g3 x hx).1 (by decide)) (by omega) (by omega)
theorem join_spec (xs : List Txt) (h0 : 0 < xs.length) (hn : xs.length ≤ 100000000) (hl : xs.flatten.length ≤ 140737488355328) : FSpec Try.prog 41 [.sl 1 false (xs.map txA), aS []] (aS xs.flatten) := fspec_plain (fun _ _ => .val _) fun D w vs hv => by
  obtain ⟨u, v, rfl, hu, hv⟩ := hv.two
  cases hv
  exact join_row u xs w (row_of_ra hu) h0 hn hl
def headT (f : Fsy) : List Txt := [numB (foldN f.next).toNat, numB f.l.length]
def partsT (f : Fsy) (k : Nat) : List Txt := headT f ++ (f.l.take k).map nodT
def textF (f : Fsy) : Txt := (partsT f f.l.length).flatten
theorem partsT_step {f : Fsy} {k : Nat} {n : Nod} (h : f.l[k]? = some n) : partsT f (k + 1) = partsT f k ++ [nodT n] := by
  unfold partsT; rw [take_step h, List.map_append, List.append_assoc]; rfl
theorem nodT_size {n : Nod} (h : OkN n) (hp : nodP n) : (nodT n).length ≤ 2000000000 := by
  obtain ⟨g1, g2, g3⟩ := nodI_parts h hp
  have ho := nodI_ok h hp
  have h1 := entsP_size (nodI n).l (fun x hx => Nat.le_trans (g3 x hx).1 (by decide)) ho.2.2.2.2.1
  have a1 := wholeB_len (nodI n).ino ho.1.1 ho.1.2
  have a2 := wholeB_len (nodI n).kind ho.2.1.1 ho.2.1.2
  have a3 := wholeB_len (nodI n).links ho.2.2.1.1 ho.2.2.1.2
  have a4 : (numB (nodI n).l.length).length ≤ 10 := numB_len10 _ (by omega)
  have a5 : (numB (nodI n).text.length).length ≤ 10 := numB_len10 _ (by omega)
  unfold nodT nodeB nodeP headP
  simp only [List.flatten_append, List.length_append, List.flatten_cons, List.flatten_nil, List.length_nil, textB]
  omega
theorem partsT_size {f : Fsy} (hn : I64 f.next) (hl : f.l.length ≤ 8796093022207) (hf : ∀ n ∈ f.l, OkN n ∧ nodP n) : ∀ k, (partsT f k).flatten.length ≤ 20 + 2000000000 * k
  | 0 => by
    have b1 := fold_bd f.next hn.1 hn.2
    have h1 := numB_len10 (foldN f.next).toNat (by omega)
    have h2 := numB_len10 f.l.length (by omega)
    simp only [partsT, headT, List.take_zero, List.map_nil, List.append_nil, List.flatten_cons, List.flatten_nil, List.length_append, List.length_nil]
    omega
  | k + 1 => by
    have ih := partsT_size hn hl hf k
    cases h : f.l[k]? with
    | none =>
      have hk := List.getElem?_eq_none_iff.1 h
      have e : partsT f (k + 1) = partsT f k := by
        unfold partsT
        rw [List.take_of_length_le (by omega), List.take_of_length_le hk]
      rw [e]; omega
    | some n =>
      obtain ⟨g1, g2⟩ := hf n (List.mem_of_getElem? h)
      have := nodT_size g1 g2
      rw [partsT_step h, List.flatten_append, List.length_append]
      simp only [List.flatten_cons, List.flatten_nil, List.append_nil]
      omega
theorem partsT_len (f : Fsy) (k : Nat) (hk : k ≤ f.l.length) : (partsT f k).length = 2 + k := by
  simp only [partsT, headT, List.length_append, List.length_map, List.length_take, List.length_cons, List.length_nil]
  omega
theorem takeFs_told : ∀ (l acc : List Nod) (more : Txt), (∀ n ∈ l, OkN n ∧ nodP n) → takeFs l.length acc ((l.map nodT).flatten ++ more) = (acc ++ l, more, 0)
  | [], acc, more, _ => by simp [takeFs]
  | n :: r, acc, more, h => by
    obtain ⟨h1, h2⟩ := h n (List.mem_cons_self ..)
    have hp := (takeNode_parses (nodI n) (nodI_right h2) (nodI_ok h1 h2)).1 ((r.map nodT).flatten ++ more)
    have e : ((n :: r).map nodT).flatten ++ more = nodeB (nodI n) ++ ((r.map nodT).flatten ++ more) := by simp [nodT]
    rw [e]
    show takeFs (r.length + 1) acc _ = _
    rw [takeFs_step (by rw [hp]), hp]
    show takeFs r.length (acc ++ [nodO (nodI n)]) _ = _
    rw [nodO_I, takeFs_told r _ more (fun m hm => h m (List.mem_cons_of_mem _ hm)), List.append_assoc]
    rfl
theorem textF_eq (f : Fsy) : textF f = numB (foldN f.next).toNat ++ (numB f.l.length ++ (f.l.map nodT).flatten) := by
  unfold textF partsT headT
  rw [take_all (Nat.le_refl _)]
  simp
theorem take_told {f : Fsy} (ok : OkF f) (hp : rowsP f) : takeF (textF f) = (f, 0) := by
  have hf : ∀ n ∈ f.l, OkN n ∧ nodP n := fun n hn => ⟨ok.2.2 n hn, ((rowsP_iff.1 hp).2.2.1 n hn).1⟩
  obtain ⟨b1, b2⟩ := fold_bd f.next ok.1.1 ok.1.2
  have t1 := (takeNum_parses (foldN f.next).toNat (by omega)).1 (numB f.l.length ++ (f.l.map nodT).flatten)
  have t2 := (takeNum_parses f.l.length (by have := hp.1; omega)).1 (f.l.map nodT).flatten
  have t3 := takeFs_told f.l [] [] hf
  rw [List.append_nil, List.nil_append] at t3
  rw [textF_eq]
  have hn : (takeNum (numB (foldN f.next).toNat ++ (numB f.l.length ++ (f.l.map nodT).flatten))) = ((foldN f.next).toNat, numB f.l.length ++ (f.l.map nodT).flatten, 0) := t1
  rw [takeF_5 (by rw [hn]) (by rw [hn]; show (takeNum (numB f.l.length ++ (f.l.map nodT).flatten)).2.2 = 0; rw [t2]) (by rw [hn]; show ¬ ((takeNum (numB f.l.length ++ (f.l.map nodT).flatten)).1 : Int) > 256; rw [t2]; have := hp.1; show ¬ ((f.l.length : Nat) : Int) > 256; omega)
    (acc := f.l) (rest := []) (by rw [hn]; show takeFs (takeNum (numB f.l.length ++ (f.l.map nodT).flatten)).1 [] (takeNum (numB f.l.length ++ (f.l.map nodT).flatten)).2.1 = _; rw [t2]; exact t3)]
  rw [hn]
  have e : unfoldN (((foldN f.next).toNat : Nat) : Int) = f.next := by rw [Int.toNat_of_nonneg b1, unfold_fold]
  show endF ⟨f.l, unfoldN (((foldN f.next).toNat : Nat) : Int)⟩ [] = _
  rw [e]
  exact endF_yes hp rfl
theorem takeFs_laid : ∀ (m : Nat) (acc : List Nod) (s : Txt), (takeFs m acc s).2.2 = 0 → ∃ l : List Nod, l.length = m ∧ (takeFs m acc s).1 = acc ++ l ∧ s = (l.map nodT).flatten ++ (takeFs m acc s).2.1
  | 0, acc, s, _ => ⟨[], rfl, by simp [takeFs], by simp [takeFs]⟩
  | m + 1, acc, s, h => by
    by_cases he : (takeNode s).2.2 = 0
    · rw [takeFs_step he] at h ⊢
      obtain ⟨l, e1, e2, e3⟩ := takeFs_laid m _ _ h
      have hl := (takeNode_laid s he).1
      refine ⟨nodO (takeNode s).1 :: l, by simp [e1], by rw [e2]; simp, ?_⟩
      simp only [List.map_cons, List.flatten_cons, List.append_assoc]
      rw [← e3]
      show s = nodeB (nodI (nodO (takeNode s).1)) ++ _
      rw [nodI_O]
      exact hl
    · rw [takeFs_bad he] at h
      exact absurd h he
theorem take_laid {s : Txt} (h : (takeF s).2 = 0) : rowsP (takeF s).1 ∧ textF (takeF s).1 = s := by
  by_cases h1 : (takeNum s).2.2 = 0
  · by_cases h2 : (takeNum (takeNum s).2.1).2.2 = 0
    · by_cases h3 : ((takeNum (takeNum s).2.1).1 : Int) > 256
      · rw [takeF_3 h1 h2 h3] at h; cases h
      · by_cases h4 : (takeFs (takeNum (takeNum s).2.1).1 [] (takeNum (takeNum s).2.1).2.1).2.2 = 0
        · obtain ⟨l, e1, e2, e3⟩ := takeFs_laid _ _ _ h4
          rw [List.nil_append] at e2
          have e5 := takeF_5 (acc := l) (rest := (takeFs (takeNum (takeNum s).2.1).1 [] (takeNum (takeNum s).2.1).2.1).2.1) h1 h2 h3 (by rw [← e2, ← h4])
          rw [e5] at h ⊢
          by_cases hp : rowsP ⟨l, unfoldN ((takeNum s).1 : Int)⟩ ∧ (takeFs (takeNum (takeNum s).2.1).1 [] (takeNum (takeNum s).2.1).2.1).2.1 = []
          · rw [endF_yes hp.1 hp.2]
            refine ⟨hp.1, ?_⟩
            rw [hp.2, List.append_nil] at e3
            have l1 := takeNum_laid s h1
            have l2 := takeNum_laid (takeNum s).2.1 h2
            rw [textF_eq]
            show numB (foldN (unfoldN ((takeNum s).1 : Int))).toNat ++ (numB l.length ++ (l.map nodT).flatten) = s
            rw [fold_unfold _ (by omega), Int.toNat_natCast, e1, ← e3, ← l2]
            exact l1.symm
          · rw [endF_no hp] at h; cases h
        · rw [takeF_4 h1 h2 h3 rfl h4] at h; exact absurd h h4
    · rw [takeF_2 h1 h2] at h; exact absurd h h2
  · rw [takeF_1 h1] at h; exact absurd h h1
set_option maxRecDepth 100000 in
set_option maxHeartbeats 4000000 in
theorem text_spec (f : Fsy) (okf : OkF f) (hl : f.l.length ≤ 256) (hf : ∀ n ∈ f.l, OkN n ∧ nodP n) : FSpec Try.prog 22 [.agg [.sl 5 false (f.l.map nodA), aI f.next]] (aS (textF f)) := by
  exact spec_vc (F := Try.f22) 400 (
 .new fun b1 => .r 1 <| .ord [0, 1, 4, 5, 6, 7, 2, 3, 8, 9, 10] <| .run 5 [b1 = b1, b1 = b1] ⟨rfl, rfl, trivial⟩ <|
 .val 12 (show (aI ((f.l.map nodA).length : Int) : AV) = aI (f.l.length : Int) from by rw [List.length_map]) <| .op (cvR) (3, 55, .int .i64 (f.l.length : Int), some 13) (fun (_ : Unit) σ => σ.put (some 13) (.val (.int .u64 (f.l.length : Int)))) (rule_cv (conv_int (by kernel_rfl) (by kernel_rfl) (rngu (by omega) (by omega)))) fun _ =>
 .call (fold_spec f.next okf.1) <|
 .call (num_spec (foldN f.next) (fold_bd f.next okf.1.1 okf.1.2).1 (fold_bd f.next okf.1.1 okf.1.2).2) <|
 .call (numN_spec f.l.length (by omega)) <|
 .litN fun V1 => .r 1 <| .run 3 [b1 = b1] ⟨rfl, trivial⟩ <|
 .val 18 (show (aI ((f.l.map nodA).length : Int) : AV) = aI (f.l.length : Int) from by rw [List.length_map]) <| .r 1 <| let L1 : Lp (Nat × Value) := ⟨fun a1 => ⟨[(17, .sl 5 false (f.l.map nodA)), (18, aI (f.l.length : Int)), (19, aI (a1.1 : Int)), (3, .rw 15 a1.2 ((partsT f a1.1).length))], [(15, .row a1.2 9 1 ((partsT f a1.1).map txA))]⟩, fun a1 => f.l.length - a1.1, fun a1 => a1.1 ≤ f.l.length⟩
 .loop L1 (0, V1) (show 0 ≤ f.l.length from Nat.zero_le _) ⟨[(17, .sl 5 false (f.l.map nodA)), (18, aI (f.l.length : Int)), (19, aI 0), (3, .rw 15 V1 2)], [(15, .row V1 9 1 ([[aS (numB (foldN f.next).toNat)], [aS (numB f.l.length)]]))]⟩ ⟨Sub.refl _, Sub.refl _, Sub.of_eq (congrArg aI (by first | omega | rfl)), Sub.of_eq (congrArg (AV.rw 15 V1) (by simp [partsT, headT])), trivial⟩ ⟨⟨_, rfl, SubB.of_eq (by simp [partsT, headT, txA])⟩, trivial⟩ fun a1 ha1 =>
 (fun (k : Nat) (V : Value) (hH1 : k ≤ f.l.length) => .r 1 <| .br 20 (decide ((k : Int) < (f.l.length : Int))) (fun q1 => have p1 := decT q1; .idxM f.l nodA k (m := (k : Int)) rfl (by omega) fun x1 hx1 =>
 .r 1 <| .new fun b2 => .run 1 [b2 = b2] ⟨rfl, trivial⟩ <|
 .run 2 [b2 = b2] ⟨rfl, trivial⟩ <|
 .call (ntext_spec x1 (hf x1 (List.mem_of_getElem? hx1)).1 (hf x1 (List.mem_of_getElem? hx1)).2) <|
 .r 1 <| .app 16 V ((partsT f k).map txA) ([[aS (nodT x1)]]) (by first | (simp; done) | (simp only [List.length_map, List.length_cons, List.length_nil, partsT_len f k (by omega)]; omega) | (simp; omega)) (by first | (simp; done) | (simp only [List.length_map, List.length_cons, List.length_nil, partsT_len f k (by omega)]; omega) | (simp; omega)) fun V2 =>
 .r 1 <| .run 2 [rng .i64 ((k : Int) + 1)] ⟨rng64 (by omega) (by omega), trivial⟩ <|
 .back L1 (k, V) ((k + 1), V2) (show (k + 1) ≤ f.l.length from (by show _ ≤ _; omega)) (show f.l.length - (k + 1) < f.l.length - k from (by omega)) ⟨[(17, .sl 5 false (f.l.map nodA)), (18, aI (f.l.length : Int)), (19, aI ((k : Int) + 1)), (3, .rw 15 V2 (((partsT f k).map txA).length + ([[aS (nodT x1)]] : List (List AV)).length))], [(15, .row V2 9 1 (((partsT f k).map txA) ++ ([[aS (nodT x1)]])))]⟩ ⟨Sub.refl _, Sub.refl _, Sub.of_eq (congrArg aI (by first | omega | rfl)), Sub.of_eq (congrArg (AV.rw 15 V2) (by rw [partsT_step hx1]; simp)), trivial⟩ ⟨⟨_, rfl, SubB.of_eq (by rw [partsT_step hx1]; simp [txA])⟩, trivial⟩)
 <| fun q1 => have p1 := decF q1; .frz 15 [3, 20] [] [V = V, (partsT f k).length = ((partsT f k).map txA).length] ⟨rfl, (by first | rfl | (simp; done) | (simp; omega)), trivial⟩ <|
 .r 1 <| .call (join_spec (partsT f k) (by rw [partsT_len f k (by omega)]; omega) (by rw [partsT_len f k (by omega)]; omega) (by have := partsT_size okf.1 okf.2.1 hf k; omega)) <|
 .r 1 <| .fin (x := aS ((partsT f k).flatten)) (r := aS (textF f)) [] trivial (by exact Sub.of_eq (congrArg aS (by rw [show k = f.l.length from by omega]; rfl)))) a1.1 a1.2 ha1) Try.func22 rfl (by kernel_rfl) (by kernel_rfl)
end Go.Proofs.Ytgcjfhgkkgocpaa
