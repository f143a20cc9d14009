import Derived.Test.YtkhnialfkndiiaaGreatMrgV
import Derived.Test.YtkhnialfkndiiaaGreatOpsD11
import Derived.Test.YtkhnialfkndiiaaGreatMrgX
import Derived.Test.YtkhnialfkndiiaaGreatMrgZ
set_option maxRecDepth 100000
set_option maxHeartbeats 8000000
set_option linter.unusedVariables false
set_option linter.unusedSimpArgs false
namespace Go.Proofs.YtkhnialfkndiiaaGreat
open Go Go.RowKit Copyhold
theorem of_at {f : Fsy} {i k : Int} (h : ofE f i k = 0) : atF f i = some (findN f i) ∧ (findN f i).kind = k := by
 unfold ofE at h
 split at h
 ·rename_i hb
  split at h
  ·rename_i hk; exact ⟨at_some hb, hk⟩
  ·cases h
 ·cases h
theorem kept_text {f : Fsy} {i : Int} {t : Txt} (okf : OkF f) (T : TreeP f) (h : ofE f i 1 = 0) (ht : t.length ≤ 4096) : Kept f (putF f (withT (findN f i) t)) := by
 obtain ⟨hn, hk⟩ := of_at h
 obtain ⟨n1, n2, n3⟩ := rows_at T.rows hn
 have okn := okf.2.2 _ (at_mem hn)
 exact kept_put okf T hn n3 rfl rfl rfl ⟨n1.1, n1.2.1, n1.2.2.1, .inr ⟨.inl hk, ht, (show (findN f i).l = [] from file_none n1 (by rw [hk]; decide))⟩⟩ ⟨okn.1, okn.2.1, okn.2.2.1, by show t.length ≤ _; omega, okn.2.2.2.2⟩
theorem kept_addO {f : Fsy} {c : Cal} {n : Nod} (okf : OkF f) (okc : OkCal c) (T : TreeP f) (hx : f.next < 4611686018427387904) (okn : OkN n) : Kept f (addO f c n).1 := by
 unfold addO
 show Kept f (if addErr f c.ino c.name n = 0 then _ else f)
 split
 ·rename_i h; exact kept_add okf T okn okc.name hx h
 ·exact Kept.self okf T
theorem kept_deed {f : Fsy} {c : Cal} (okf : OkF f) (okc : OkCal c) (T : TreeP f) (hx : f.next < 4611686018427387904) (he : (deedF f c).2.e = 0) : Kept f (deedF f c).1 := by
 have S := Kept.self okf T
 rcases (show c.kind = 1 ∨ c.kind = 2 ∨ c.kind = 3 ∨ c.kind = 4 ∨ c.kind = 5 ∨ c.kind = 6 ∨ c.kind = 7 ∨ c.kind = 8 ∨ c.kind = 9 ∨ c.kind = 10 ∨ c.kind = 11 ∨ c.kind = 12 ∨ c.kind = 13 ∨ c.kind = 14 ∨ c.kind = 15 ∨ (c.kind < 1 ∨ c.kind > 15) from by omega) with h | h | h | h | h | h | h | h | h | h | h | h | h | h | h | h
 ·rw [deed_1 h] at he ⊢
  exact S
 ·rw [deed_2 h] at he ⊢
  unfold statD; split <;> exact S
 ·rw [deed_3 h] at he ⊢
  unfold readO; split <;> exact S
 ·rw [deed_4 h] at he ⊢
  unfold writeO at he ⊢
  split
  ·rename_i hof
   rw [if_pos hof] at he
   refine kept_text okf T hof ?_
   have he2 : (writeD (findN f c.ino).text c.at_ c.text).2 = 0 := he
   unfold writeD at he2 ⊢
   split
   ·rename_i hw
    have hz := refusedD_zero hw
    have htl := txt_len T.rows c.ino
    show (if c.text = [] then (findN f c.ino).text else putD (findN f c.ino).text c.at_.toNat c.text).length ≤ 4096
    split
    ·exact htl
    ·rw [putD_length]; omega
   ·exact txt_len T.rows c.ino
  ·exact S
 ·rw [deed_5 h] at he ⊢
  unfold cutO
  split
  ·rename_i hof
   refine kept_text okf T hof ?_
   unfold cutD
   split
   ·rename_i hw
    have hz := refusedD_zero hw
    show (fillD (findN f c.ino).text c.many.toNat).length ≤ 4096
    rw [fillD_length]; omega
   ·exact txt_len T.rows c.ino
  ·exact S
 ·rw [deed_6 h] at he ⊢
  exact kept_addO okf okc T hx kfile_ok
 ·rw [deed_7 h] at he ⊢
  exact kept_addO okf okc T hx kdir_ok
 ·rw [deed_8 h] at he ⊢
  unfold symO
  split
  ·exact S
  ·exact kept_addO okf okc T hx (klink_ok okc.text)
 ·rw [deed_9 h] at he ⊢
  unfold takeO at he ⊢
  split
  ·rename_i h0
   split
   ·exact S
   ·rename_i h1
    rw [if_pos h0, if_neg h1] at he
    exact kept_take okf T he
  ·exact S
 ·rw [deed_10 h] at he ⊢
  unfold takeO at he ⊢
  split
  ·rename_i h0
   split
   ·exact S
   ·rename_i h1
    rw [if_pos h0, if_neg h1] at he
    exact kept_take okf T he
  ·exact S
 ·rw [deed_11 h] at he ⊢
  unfold linkO at he ⊢
  exact kept_give okf T okc.name he
 ·rw [deed_12 h] at he ⊢
  unfold renO at he ⊢
  exact kept_mov okf T okc.name2 he
 ·rw [deed_13 h] at he ⊢
  exact S
 ·rw [deed_14 h] at he ⊢
  exact S
 ·rw [deed_15 h] at he ⊢
  exact S
 ·rw [deed_no h]; exact S
theorem kept_do {f : Fsy} {c : Cal} (okf : OkF f) (okc : OkCal c) (T : TreeP f) (hx : f.next < 4611686018427387904) : Kept f (doF f c).1 := by
 unfold doF
 split
 ·rename_i h; exact kept_deed okf okc T hx h
 ·exact Kept.self okf T
theorem dono {f : Fsy} {c : Cal} {e : Int} (h : (deedF f c).2.e = e) (he : ¬ e = 0) : doF f c = (f, errR e) := by
 have := do_no (f := f) (c := c) rfl (by rw [h]; exact he)
 rw [this, h]
theorem readD_no {s : Txt} {a b : Int} (h : ¬ (readD s a b).2 = 0) : (readD s a b).1 = [] := by
 unfold readD at h ⊢
 split
 ·rename_i h1; rw [if_pos h1] at h; exact absurd rfl h
 ·rfl
theorem read_no {f : Fsy} {c : Cal} {e : Int} (hk : c.kind = 3) (h : ofE f c.ino 1 = e) (he : ¬ e = 0) : doF f c = (f, errR e) := dono (by rw [deed_3 hk]; unfold readO; rw [h, if_neg he]; rfl) he
theorem read_yes {f : Fsy} {c : Cal} (hk : c.kind = 3) (h : ofE f c.ino 1 = 0) : doF f c = (f, ⟨(readD (findN f c.ino).text c.at_ c.many).2, 0, 0, 0, (readD (findN f c.ino).text c.at_ c.many).1, []⟩) := by
 have hd : deedF f c = (f, ⟨(readD (findN f c.ino).text c.at_ c.many).2, 0, 0, 0, (readD (findN f c.ino).text c.at_ c.many).1, []⟩) := by rw [deed_3 hk]; unfold readO; rw [if_pos h]
 by_cases he : (readD (findN f c.ino).text c.at_ c.many).2 = 0
 ·exact do_yes hd he
 ·rw [do_no hd he, readD_no he]; rfl
theorem write_no {f : Fsy} {c : Cal} {e : Int} (hk : c.kind = 4) (h : ofE f c.ino 1 = e) (he : ¬ e = 0) : doF f c = (f, errR e) := dono (by rw [deed_4 hk]; unfold writeO; rw [h, if_neg he]; rfl) he
theorem write_yes {f : Fsy} {c : Cal} (hk : c.kind = 4) (h : ofE f c.ino 1 = 0) : deedF f c = (putF f (withT (findN f c.ino) (writeD (findN f c.ino).text c.at_ c.text).1), ⟨(writeD (findN f c.ino).text c.at_ c.text).2, (c.text.length : Int), 0, 0, [], []⟩) := by rw [deed_4 hk]; unfold writeO; rw [if_pos h]
theorem cut_no {f : Fsy} {c : Cal} {e : Int} (hk : c.kind = 5) (h : ofE f c.ino 1 = e) (he : ¬ e = 0) : doF f c = (f, errR e) := dono (by rw [deed_5 hk]; unfold cutO; rw [h, if_neg he]; rfl) he
theorem cut_yes {f : Fsy} {c : Cal} (hk : c.kind = 5) (h : ofE f c.ino 1 = 0) : deedF f c = (putF f (withT (findN f c.ino) (cutD (findN f c.ino).text c.many).1), errR (cutD (findN f c.ino).text c.many).2) := by rw [deed_5 hk]; unfold cutO; rw [if_pos h]
theorem link_no {f : Fsy} {c : Cal} {e : Int} (hk : c.kind = 13) (h : ofE f c.ino 3 = e) (he : ¬ e = 0) : doF f c = (f, errR e) := dono (by rw [deed_13 hk]; exact h) he
theorem link_yes {f : Fsy} {c : Cal} (hk : c.kind = 13) (h : ofE f c.ino 3 = 0) : doF f c = (f, ⟨0, 0, 0, 0, (findN f c.ino).text, []⟩) := by
 have hd : deedF f c = (f, ⟨0, 0, 0, 0, (findN f c.ino).text, []⟩) := by
  rw [deed_13 hk]; unfold rlnkO; rw [h, of_yes h]
 exact do_yes hd rfl
theorem add_no {f : Fsy} {c : Cal} {n : Nod} (hd : deedF f c = addO f c n) {e : Int} (h : addErr f c.ino c.name n = e) (he : ¬ e = 0) : doF f c = (f, errR e) := dono (by rw [hd]; exact h) he
theorem add_yes {f : Fsy} {c : Cal} {n : Nod} (hd : deedF f c = addO f c n) (h : addErr f c.ino c.name n = 0) : doF f c = (addF f c.ino c.name (addN f n), ⟨0, f.next, 0, 0, [], []⟩) := by
 have h2 : addO f c n = (addF f c.ino c.name (addN f n), ⟨0, f.next, 0, 0, [], []⟩) := by unfold addO; rw [h]; rfl
 exact do_yes (hd.trans h2) rfl
theorem sym_big {f : Fsy} {c : Cal} (hk : c.kind = 8) (h : (c.text.length : Int) > 4096) : doF f c = (f, errR 5) := dono (by rw [deed_8 hk]; unfold symO; rw [if_pos h]; rfl) (by decide)
theorem sym_add {f : Fsy} {c : Cal} (hk : c.kind = 8) (h : ¬ (c.text.length : Int) > 4096) : deedF f c = addO f c ⟨0, 3, 0, c.text, []⟩ := by rw [deed_8 hk]; unfold symO; rw [if_neg h]
theorem rref_spec (e : Int) : FSpec Tryz.prog 39 [aI e] (.agg (repA (errR e))) := by
 exact spec_vc (F := Tryz.f39) 400 (
 .new fun b1 => .run 3 [b1 = b1] rt1 <|
 .fin (x := .agg [aI e, aI 0, aI 0, aI 0, aS ([]), aN]) (r := .agg (repA (errR e))) [b1 = b1] rt1 (by exact Sub.aggs ⟨sR, sR, sR, sR, sR, Sub.nil _ _, trivial⟩)) Tryz.func39 rfl (by kernel_rfl) (by kernel_rfl)
theorem rtexts3_spec (f : Fsy) (c : Cal) (okf : OkF f) (okc : OkCal c) (hp : rowsP f) (htx : c.text.length ≤ 500000) (hk : c.kind = 3) : FSpec Tryz.prog 41 [.agg (fsyA f), .agg (calA c)] (.tup [.agg (fsyA (doF f c).1), .agg (repA (doF f c).2)]) := by
 have hl := hp.1
 have hr := rows_rise hp
 have hcn := okc.name
 have hcn2 := okc.name2
 have hct := okc.text
 exact spec_vc (F := Tryz.f41) 400 (
 .new fun b1 => .new fun b2 => .new fun b3 => .new fun b4 => .run 3 [b1 = b1, b2 = b2] rt2 <|
 .call (rfind_spec f c.ino (by omega)) <|
 .r 3 <| .new fun b5 => .run 2 [b5 = b5] rt1 <|
 .r 2 <| .br 21 (!(findB f c.ino)) (fun q1 => have q1 := notT q1; have p1 := booF q1; .ord [0, 1, 2, 3] <| .run 1 [b1 = b1] rt1 <|
 .call (rref_spec 6) <|
 .run 2 [b3 = b3, b4 = b4] rt2 <|
 .fin (x := .tup [.agg (fsyA f), .agg [aI ((errR 6).e), aI ((errR 6).a), aI ((errR 6).b), aI ((errR 6).n), aS ((errR 6).text), .sl 1 false ((errR 6).names.map txA)]]) (r := .tup [.agg (fsyA (doF f c).1), .agg (repA (doF f c).2)]) [b3 = b3, b4 = b4] rt2 (by
  rw [read_no hk (ofE_6 q1).1 (by decide)]
  exact sR))
 <| fun q1 => have q1 := notF q1; have p1 := booT q1; .run 3 [b2 = b2] rt1 <|
 .is 26 (show (c.kind == 13) = false from (by rw [hk]; rfl)) <| .run 3 [b5 = b5] rt1 <|
 .br 38 (((findN f c.ino).kind) != 1) (fun q2 => have p2 := bneT q2; .ord [0, 1, 2, 3] <| .run 1 [b1 = b1] rt1 <|
 .call (rref_spec 14) <|
 .run 2 [b3 = b3, b4 = b4] rt2 <|
 .fin (x := .tup [.agg (fsyA f), .agg [aI ((errR 14).e), aI ((errR 14).a), aI ((errR 14).b), aI ((errR 14).n), aS ((errR 14).text), .sl 1 false ((errR 14).names.map txA)]]) (r := .tup [.agg (fsyA (doF f c).1), .agg (repA (doF f c).2)]) [b3 = b3, b4 = b4] rt2 (by
  rw [read_no hk (ofE_14 (k := 1) q1 (bneT q2)).1 (by decide)]
  exact sR))
 <| fun q2 => have p2 := bneF q2; .run 3 [b2 = b2] rt1 <|
 .is 43 (show (c.kind == 3) = true from (by rw [hk]; rfl)) <| .run 6 [b5 = b5, b2 = b2, b2 = b2] rt3 <|
 .call (r9read_spec (findN f c.ino).text c.at_ c.many (by have := txt_len hp c.ino; omega) okc.at_ okc.many) <|
 .r 5 <| .run 6 [b1 = b1, b3 = b3, b4 = b4] rt3 <|
 .fin (x := .tup [.agg (fsyA f), .agg [aI ((readD (findN f c.ino).text c.at_ c.many).2), aI 0, aI 0, aI 0, aS ((readD (findN f c.ino).text c.at_ c.many).1), aN]]) (r := .tup [.agg (fsyA (doF f c).1), .agg (repA (doF f c).2)]) [b3 = b3, b4 = b4] rt2 (by
  have h0 := (ofE_0 (k := 1) q1 (bneF q2)).1
  rw [read_yes hk h0]
  exact Sub.tups ⟨sR, rep_sub _ _ _ _ _, trivial⟩)) Tryz.func41 rfl (by kernel_rfl) (by kernel_rfl)
theorem rtexts4_spec (f : Fsy) (c : Cal) (okf : OkF f) (okc : OkCal c) (hp : rowsP f) (htx : c.text.length ≤ 500000) (hk : c.kind = 4) : FSpec Tryz.prog 41 [.agg (fsyA f), .agg (calA c)] (.tup [.agg (fsyA (doF f c).1), .agg (repA (doF f c).2)]) := by
 have hl := hp.1
 have hr := rows_rise hp
 have hcn := okc.name
 have hcn2 := okc.name2
 have hct := okc.text
 exact spec_vc (F := Tryz.f41) 400 (
 .new fun b1 => .new fun b2 => .new fun b3 => .new fun b4 => .run 3 [b1 = b1, b2 = b2] rt2 <|
 .call (rfind_spec f c.ino (by omega)) <|
 .r 3 <| .new fun b5 => .run 2 [b5 = b5] rt1 <|
 .r 2 <| .br 21 (!(findB f c.ino)) (fun q1 => have q1 := notT q1; have p1 := booF q1; .ord [0, 1, 2, 3] <| .run 1 [b1 = b1] rt1 <|
 .call (rref_spec 6) <|
 .run 2 [b3 = b3, b4 = b4] rt2 <|
 .fin (x := .tup [.agg (fsyA f), .agg [aI ((errR 6).e), aI ((errR 6).a), aI ((errR 6).b), aI ((errR 6).n), aS ((errR 6).text), .sl 1 false ((errR 6).names.map txA)]]) (r := .tup [.agg (fsyA (doF f c).1), .agg (repA (doF f c).2)]) [b3 = b3, b4 = b4] rt2 (by
  rw [write_no hk (ofE_6 q1).1 (by decide)]
  exact sR))
 <| fun q1 => have q1 := notF q1; have p1 := booT q1; .run 3 [b2 = b2] rt1 <|
 .is 26 (show (c.kind == 13) = false from (by rw [hk]; rfl)) <| .run 3 [b5 = b5] rt1 <|
 .br 38 (((findN f c.ino).kind) != 1) (fun q2 => have p2 := bneT q2; .ord [0, 1, 2, 3] <| .run 1 [b1 = b1] rt1 <|
 .call (rref_spec 14) <|
 .run 2 [b3 = b3, b4 = b4] rt2 <|
 .fin (x := .tup [.agg (fsyA f), .agg [aI ((errR 14).e), aI ((errR 14).a), aI ((errR 14).b), aI ((errR 14).n), aS ((errR 14).text), .sl 1 false ((errR 14).names.map txA)]]) (r := .tup [.agg (fsyA (doF f c).1), .agg (repA (doF f c).2)]) [b3 = b3, b4 = b4] rt2 (by
  rw [write_no hk (ofE_14 (k := 1) q1 (bneT q2)).1 (by decide)]
  exact sR))
 <| fun q2 => have p2 := bneF q2; .run 3 [b2 = b2] rt1 <|
 .is 43 (show (c.kind == 3) = false from (by rw [hk]; rfl)) <| .r 1 <| .new fun b6 => .run 1 [b6 = b6] rt1 <|
 .run 4 [b5 = b5, b2 = b2] rt2 <|
 .call (r9cut_spec (findN f c.ino).text c.many (by have := txt_len hp c.ino; omega) okc.many) <|
 .r 5 <| .run 3 [b2 = b2] rt1 <|
 .is 69 (show (c.kind == 4) = true from (by rw [hk]; rfl)) <| .run 6 [b5 = b5, b2 = b2, b2 = b2] rt3 <|
 .call (r9write_spec (findN f c.ino).text c.at_ c.text (by have := txt_len hp c.ino; omega) okc.at_ htx) <|
 .r 5 <| .run 5 [b2 = b2, b6 = b6] rt2 <|
 .r 2 <| .br 85 (((writeD (findN f c.ino).text c.at_ c.text).2) != 0) (fun q3 => have p3 := bneT q3; .ord [0, 1, 2, 3, 4] <| .run 2 [b1 = b1] rt1 <|
 .call (rref_spec ((writeD (findN f c.ino).text c.at_ c.text).2)) <|
 .run 2 [b3 = b3, b4 = b4] rt2 <|
 .fin (x := .tup [.agg (fsyA f), .agg [aI ((errR ((writeD (findN f c.ino).text c.at_ c.text).2)).e), aI ((errR ((writeD (findN f c.ino).text c.at_ c.text).2)).a), aI ((errR ((writeD (findN f c.ino).text c.at_ c.text).2)).b), aI ((errR ((writeD (findN f c.ino).text c.at_ c.text).2)).n), aS ((errR ((writeD (findN f c.ino).text c.at_ c.text).2)).text), .sl 1 false ((errR ((writeD (findN f c.ino).text c.at_ c.text).2)).names.map txA)]]) (r := .tup [.agg (fsyA (doF f c).1), .agg (repA (doF f c).2)]) [b3 = b3, b4 = b4] rt2 (by
  have h0 := (ofE_0 (k := 1) q1 (bneF q2)).1
  rw [dono (by rw [write_yes hk h0]; try rfl) (bneT q3)]
  exact sR))
 <| fun q3 => have p3 := bneF q3; .run 3 [b5 = b5] rt1 <|
 let J1 : Jn (Unit) := ⟨fun j1 => ⟨[(4, .ptr 4 b3 0), (5, .ptr 5 b4 0)], [(4, .box b3 24 [.sl 5 false ((putF f (withT (findN f c.ino) (writeD (findN f c.ino).text c.at_ c.text).1)).l.map nodA), aI ((putF f (withT (findN f c.ino) (writeD (findN f c.ino).text c.at_ c.text).1)).next)]), (5, .box b4 30 [aI 0, aI ((c.text).length : Int), aI 0, aI 0, aS ([]), aN])]⟩, fun _ => True⟩
 .cut J1 (.pick [0, 1] <| .run 2 [b1 = b1, b5 = b5] rt2 <|
 .fork <| .alt (.callS (args0 := [.agg (fsyA f), .agg [aI ((findN f c.ino).ino), aI ((findN f c.ino).kind), aI ((findN f c.ino).links), aS ((writeD (findN f c.ino).text c.at_ c.text).1), .sl 2 false ((findN f c.ino).l.map entA)]]) (args := [.agg (fsyA f), .agg [aI ((withT (findN f c.ino) (writeD (findN f c.ino).text c.at_ c.text).1).ino), aI ((withT (findN f c.ino) (writeD (findN f c.ino).text c.at_ c.text).1).kind), aI ((withT (findN f c.ino) (writeD (findN f c.ino).text c.at_ c.text).1).links), aS ((withT (findN f c.ino) (writeD (findN f c.ino).text c.at_ c.text).1).text), .sl 2 false ((withT (findN f c.ino) (writeD (findN f c.ino).text c.at_ c.text).1).l.map entA)]]) sr2 (rput_spec f (withT (findN f c.ino) (writeD (findN f c.ino).text c.at_ c.text).1) (find_I64 okf hp c.ino) (by omega) hr) <|
 .fork <| .alt (.run 1 [b6 = b6] rt1 <|
 .pick [4, 5] <| .run 2 [b3 = b3, b4 = b4] rt2 <|
 .join J1 () trivial ⟨[(4, .ptr 4 b3 0), (5, .ptr 5 b4 0)], [(4, .box b3 24 [.sl 5 false ((putF f (withT (findN f c.ino) (writeD (findN f c.ino).text c.at_ c.text).1)).l.map nodA), aI ((putF f (withT (findN f c.ino) (writeD (findN f c.ino).text c.at_ c.text).1)).next)]), (5, .box b4 30 [aI 0, aI ((c.text).length : Int), aI 0, aI 0, aS ([]), aN])]⟩ sr2 ⟨⟨_, rfl, SubB.refl _⟩, ⟨_, rfl, SubB.refl _⟩, trivial⟩)
 <| .run 1 [b3 = b3] rt1 <|
 .pick [3, 5] <| .run 2 [b6 = b6, b4 = b4] rt2 <|
 .join J1 () trivial ⟨[(4, .ptr 4 b3 0), (5, .ptr 5 b4 0)], [(4, .box b3 24 [.sl 5 false ((putF f (withT (findN f c.ino) (writeD (findN f c.ino).text c.at_ c.text).1)).l.map nodA), aI ((putF f (withT (findN f c.ino) (writeD (findN f c.ino).text c.at_ c.text).1)).next)]), (5, .box b4 30 [aI 0, aI ((c.text).length : Int), aI 0, aI 0, aS ([]), aN])]⟩ sr2 ⟨⟨_, rfl, SubB.refl _⟩, ⟨_, rfl, SubB.refl _⟩, trivial⟩)
 <| .run 1 [b6 = b6] rt1 <|
 .pick [2, 4, 5] <| .callS (args0 := [.agg (fsyA f), .agg [aI ((findN f c.ino).ino), aI ((findN f c.ino).kind), aI ((findN f c.ino).links), aS ((writeD (findN f c.ino).text c.at_ c.text).1), .sl 2 false ((findN f c.ino).l.map entA)]]) (args := [.agg (fsyA f), .agg [aI ((withT (findN f c.ino) (writeD (findN f c.ino).text c.at_ c.text).1).ino), aI ((withT (findN f c.ino) (writeD (findN f c.ino).text c.at_ c.text).1).kind), aI ((withT (findN f c.ino) (writeD (findN f c.ino).text c.at_ c.text).1).links), aS ((withT (findN f c.ino) (writeD (findN f c.ino).text c.at_ c.text).1).text), .sl 2 false ((withT (findN f c.ino) (writeD (findN f c.ino).text c.at_ c.text).1).l.map entA)]]) sr2 (rput_spec f (withT (findN f c.ino) (writeD (findN f c.ino).text c.at_ c.text).1) (find_I64 okf hp c.ino) (by omega) hr) <|
 .run 2 [b3 = b3, b4 = b4] rt2 <|
 .join J1 () trivial ⟨[(4, .ptr 4 b3 0), (5, .ptr 5 b4 0)], [(4, .box b3 24 [.sl 5 false ((putF f (withT (findN f c.ino) (writeD (findN f c.ino).text c.at_ c.text).1)).l.map nodA), aI ((putF f (withT (findN f c.ino) (writeD (findN f c.ino).text c.at_ c.text).1)).next)]), (5, .box b4 30 [aI 0, aI ((c.text).length : Int), aI 0, aI 0, aS ([]), aN])]⟩ sr2 ⟨⟨_, rfl, SubB.refl _⟩, ⟨_, rfl, SubB.refl _⟩, trivial⟩)
 <| fun _ _ => .fin (x := .tup [.agg [.sl 5 false ((putF f (withT (findN f c.ino) (writeD (findN f c.ino).text c.at_ c.text).1)).l.map nodA), aI ((putF f (withT (findN f c.ino) (writeD (findN f c.ino).text c.at_ c.text).1)).next)], .agg [aI 0, aI ((c.text).length : Int), aI 0, aI 0, aS ([]), aN]]) (r := .tup [.agg (fsyA (doF f c).1), .agg (repA (doF f c).2)]) [b3 = b3, b4 = b4] rt2 (by
  have h0 := (ofE_0 (k := 1) q1 (bneF q2)).1
  rw [do_yes (write_yes hk h0) (bneF q3)]
  have he0 := bneF q3
  refine Sub.tups ⟨sR, ?_, trivial⟩
  show Sub _ (.agg (repA ⟨_, _, _, _, _, _⟩))
  first | (rw [he0]; exact rep_sub _ _ _ _ _) | (show Sub _ (.agg (repA (errR _))); rw [he0]; exact rep_sub _ _ _ _ _))) Tryz.func41 rfl (by kernel_rfl) (by kernel_rfl)
theorem rtexts5_spec (f : Fsy) (c : Cal) (okf : OkF f) (okc : OkCal c) (hp : rowsP f) (htx : c.text.length ≤ 500000) (hk : c.kind = 5) : FSpec Tryz.prog 41 [.agg (fsyA f), .agg (calA c)] (.tup [.agg (fsyA (doF f c).1), .agg (repA (doF f c).2)]) := by
 have hl := hp.1
 have hr := rows_rise hp
 have hcn := okc.name
 have hcn2 := okc.name2
 have hct := okc.text
 exact spec_vc (F := Tryz.f41) 400 (
 .new fun b1 => .new fun b2 => .new fun b3 => .new fun b4 => .run 3 [b1 = b1, b2 = b2] rt2 <|
 .call (rfind_spec f c.ino (by omega)) <|
 .r 3 <| .new fun b5 => .run 2 [b5 = b5] rt1 <|
 .r 2 <| .br 21 (!(findB f c.ino)) (fun q1 => have q1 := notT q1; have p1 := booF q1; .ord [0, 1, 2, 3] <| .run 1 [b1 = b1] rt1 <|
 .call (rref_spec 6) <|
 .run 2 [b3 = b3, b4 = b4] rt2 <|
 .fin (x := .tup [.agg (fsyA f), .agg [aI ((errR 6).e), aI ((errR 6).a), aI ((errR 6).b), aI ((errR 6).n), aS ((errR 6).text), .sl 1 false ((errR 6).names.map txA)]]) (r := .tup [.agg (fsyA (doF f c).1), .agg (repA (doF f c).2)]) [b3 = b3, b4 = b4] rt2 (by
  rw [cut_no hk (ofE_6 q1).1 (by decide)]
  exact sR))
 <| fun q1 => have q1 := notF q1; have p1 := booT q1; .run 3 [b2 = b2] rt1 <|
 .is 26 (show (c.kind == 13) = false from (by rw [hk]; rfl)) <| .run 3 [b5 = b5] rt1 <|
 .br 38 (((findN f c.ino).kind) != 1) (fun q2 => have p2 := bneT q2; .ord [0, 1, 2, 3] <| .run 1 [b1 = b1] rt1 <|
 .call (rref_spec 14) <|
 .run 2 [b3 = b3, b4 = b4] rt2 <|
 .fin (x := .tup [.agg (fsyA f), .agg [aI ((errR 14).e), aI ((errR 14).a), aI ((errR 14).b), aI ((errR 14).n), aS ((errR 14).text), .sl 1 false ((errR 14).names.map txA)]]) (r := .tup [.agg (fsyA (doF f c).1), .agg (repA (doF f c).2)]) [b3 = b3, b4 = b4] rt2 (by
  rw [cut_no hk (ofE_14 (k := 1) q1 (bneT q2)).1 (by decide)]
  exact sR))
 <| fun q2 => have p2 := bneF q2; .run 3 [b2 = b2] rt1 <|
 .is 43 (show (c.kind == 3) = false from (by rw [hk]; rfl)) <| .r 1 <| .new fun b6 => .run 1 [b6 = b6] rt1 <|
 .run 4 [b5 = b5, b2 = b2] rt2 <|
 .call (r9cut_spec (findN f c.ino).text c.many (by have := txt_len hp c.ino; omega) okc.many) <|
 .r 5 <| .run 3 [b2 = b2] rt1 <|
 .is 69 (show (c.kind == 4) = false from (by rw [hk]; rfl)) <| .r 2 <| .br 85 (((cutD (findN f c.ino).text c.many).2) != 0) (fun q3 => have p3 := bneT q3; .ord [0, 1, 2, 3, 4] <| .run 2 [b1 = b1] rt1 <|
 .call (rref_spec ((cutD (findN f c.ino).text c.many).2)) <|
 .run 2 [b3 = b3, b4 = b4] rt2 <|
 .fin (x := .tup [.agg (fsyA f), .agg [aI ((errR ((cutD (findN f c.ino).text c.many).2)).e), aI ((errR ((cutD (findN f c.ino).text c.many).2)).a), aI ((errR ((cutD (findN f c.ino).text c.many).2)).b), aI ((errR ((cutD (findN f c.ino).text c.many).2)).n), aS ((errR ((cutD (findN f c.ino).text c.many).2)).text), .sl 1 false ((errR ((cutD (findN f c.ino).text c.many).2)).names.map txA)]]) (r := .tup [.agg (fsyA (doF f c).1), .agg (repA (doF f c).2)]) [b3 = b3, b4 = b4] rt2 (by
  have h0 := (ofE_0 (k := 1) q1 (bneF q2)).1
  rw [dono (by rw [cut_yes hk h0]; try rfl) (bneT q3)]
  exact sR))
 <| fun q3 => have p3 := bneF q3; .run 3 [b5 = b5] rt1 <|
 let J1 : Jn (Unit) := ⟨fun j1 => ⟨[(4, .ptr 4 b3 0), (5, .ptr 5 b4 0)], [(4, .box b3 24 [.sl 5 false ((putF f (withT (findN f c.ino) (cutD (findN f c.ino).text c.many).1)).l.map nodA), aI ((putF f (withT (findN f c.ino) (cutD (findN f c.ino).text c.many).1)).next)]), (5, .box b4 30 [aI 0, aI 0, aI 0, aI 0, aS ([]), aN])]⟩, fun _ => True⟩
 .cut J1 (.pick [0, 1] <| .run 2 [b1 = b1, b5 = b5] rt2 <|
 .fork <| .alt (.callS (args0 := [.agg (fsyA f), .agg [aI ((findN f c.ino).ino), aI ((findN f c.ino).kind), aI ((findN f c.ino).links), aS ((cutD (findN f c.ino).text c.many).1), .sl 2 false ((findN f c.ino).l.map entA)]]) (args := [.agg (fsyA f), .agg [aI ((withT (findN f c.ino) (cutD (findN f c.ino).text c.many).1).ino), aI ((withT (findN f c.ino) (cutD (findN f c.ino).text c.many).1).kind), aI ((withT (findN f c.ino) (cutD (findN f c.ino).text c.many).1).links), aS ((withT (findN f c.ino) (cutD (findN f c.ino).text c.many).1).text), .sl 2 false ((withT (findN f c.ino) (cutD (findN f c.ino).text c.many).1).l.map entA)]]) sr2 (rput_spec f (withT (findN f c.ino) (cutD (findN f c.ino).text c.many).1) (find_I64 okf hp c.ino) (by omega) hr) <|
 .fork <| .alt (.run 1 [b6 = b6] rt1 <|
 .pick [4, 5] <| .run 2 [b3 = b3, b4 = b4] rt2 <|
 .join J1 () trivial ⟨[(4, .ptr 4 b3 0), (5, .ptr 5 b4 0)], [(4, .box b3 24 [.sl 5 false ((putF f (withT (findN f c.ino) (cutD (findN f c.ino).text c.many).1)).l.map nodA), aI ((putF f (withT (findN f c.ino) (cutD (findN f c.ino).text c.many).1)).next)]), (5, .box b4 30 [aI 0, aI 0, aI 0, aI 0, aS ([]), aN])]⟩ sr2 ⟨⟨_, rfl, SubB.refl _⟩, ⟨_, rfl, SubB.refl _⟩, trivial⟩)
 <| .run 1 [b3 = b3] rt1 <|
 .pick [3, 5] <| .run 2 [b6 = b6, b4 = b4] rt2 <|
 .join J1 () trivial ⟨[(4, .ptr 4 b3 0), (5, .ptr 5 b4 0)], [(4, .box b3 24 [.sl 5 false ((putF f (withT (findN f c.ino) (cutD (findN f c.ino).text c.many).1)).l.map nodA), aI ((putF f (withT (findN f c.ino) (cutD (findN f c.ino).text c.many).1)).next)]), (5, .box b4 30 [aI 0, aI 0, aI 0, aI 0, aS ([]), aN])]⟩ sr2 ⟨⟨_, rfl, SubB.refl _⟩, ⟨_, rfl, SubB.refl _⟩, trivial⟩)
 <| .run 1 [b6 = b6] rt1 <|
 .pick [2, 4, 5] <| .callS (args0 := [.agg (fsyA f), .agg [aI ((findN f c.ino).ino), aI ((findN f c.ino).kind), aI ((findN f c.ino).links), aS ((cutD (findN f c.ino).text c.many).1), .sl 2 false ((findN f c.ino).l.map entA)]]) (args := [.agg (fsyA f), .agg [aI ((withT (findN f c.ino) (cutD (findN f c.ino).text c.many).1).ino), aI ((withT (findN f c.ino) (cutD (findN f c.ino).text c.many).1).kind), aI ((withT (findN f c.ino) (cutD (findN f c.ino).text c.many).1).links), aS ((withT (findN f c.ino) (cutD (findN f c.ino).text c.many).1).text), .sl 2 false ((withT (findN f c.ino) (cutD (findN f c.ino).text c.many).1).l.map entA)]]) sr2 (rput_spec f (withT (findN f c.ino) (cutD (findN f c.ino).text c.many).1) (find_I64 okf hp c.ino) (by omega) hr) <|
 .run 2 [b3 = b3, b4 = b4] rt2 <|
 .join J1 () trivial ⟨[(4, .ptr 4 b3 0), (5, .ptr 5 b4 0)], [(4, .box b3 24 [.sl 5 false ((putF f (withT (findN f c.ino) (cutD (findN f c.ino).text c.many).1)).l.map nodA), aI ((putF f (withT (findN f c.ino) (cutD (findN f c.ino).text c.many).1)).next)]), (5, .box b4 30 [aI 0, aI 0, aI 0, aI 0, aS ([]), aN])]⟩ sr2 ⟨⟨_, rfl, SubB.refl _⟩, ⟨_, rfl, SubB.refl _⟩, trivial⟩)
 <| fun _ _ => .fin (x := .tup [.agg [.sl 5 false ((putF f (withT (findN f c.ino) (cutD (findN f c.ino).text c.many).1)).l.map nodA), aI ((putF f (withT (findN f c.ino) (cutD (findN f c.ino).text c.many).1)).next)], .agg [aI 0, aI 0, aI 0, aI 0, aS ([]), aN]]) (r := .tup [.agg (fsyA (doF f c).1), .agg (repA (doF f c).2)]) [b3 = b3, b4 = b4] rt2 (by
  have h0 := (ofE_0 (k := 1) q1 (bneF q2)).1
  rw [do_yes (cut_yes hk h0) (bneF q3)]
  have he0 := bneF q3
  refine Sub.tups ⟨sR, ?_, trivial⟩
  show Sub _ (.agg (repA ⟨_, _, _, _, _, _⟩))
  first | (rw [he0]; exact rep_sub _ _ _ _ _) | (show Sub _ (.agg (repA (errR _))); rw [he0]; exact rep_sub _ _ _ _ _))) Tryz.func41 rfl (by kernel_rfl) (by kernel_rfl)
theorem rtexts13_spec (f : Fsy) (c : Cal) (okf : OkF f) (okc : OkCal c) (hp : rowsP f) (htx : c.text.length ≤ 500000) (hk : c.kind = 13) : FSpec Tryz.prog 41 [.agg (fsyA f), .agg (calA c)] (.tup [.agg (fsyA (doF f c).1), .agg (repA (doF f c).2)]) := by
 have hl := hp.1
 have hr := rows_rise hp
 have hcn := okc.name
 have hcn2 := okc.name2
 have hct := okc.text
 exact spec_vc (F := Tryz.f41) 400 (
 .new fun b1 => .new fun b2 => .new fun b3 => .new fun b4 => .run 3 [b1 = b1, b2 = b2] rt2 <|
 .call (rfind_spec f c.ino (by omega)) <|
 .r 3 <| .new fun b5 => .run 2 [b5 = b5] rt1 <|
 .r 2 <| .br 21 (!(findB f c.ino)) (fun q1 => have q1 := notT q1; have p1 := booF q1; .ord [0, 1, 2, 3] <| .run 1 [b1 = b1] rt1 <|
 .call (rref_spec 6) <|
 .run 2 [b3 = b3, b4 = b4] rt2 <|
 .fin (x := .tup [.agg (fsyA f), .agg [aI ((errR 6).e), aI ((errR 6).a), aI ((errR 6).b), aI ((errR 6).n), aS ((errR 6).text), .sl 1 false ((errR 6).names.map txA)]]) (r := .tup [.agg (fsyA (doF f c).1), .agg (repA (doF f c).2)]) [b3 = b3, b4 = b4] rt2 (by
  rw [link_no hk (ofE_6 q1).1 (by decide)]
  exact sR))
 <| fun q1 => have q1 := notF q1; have p1 := booT q1; .run 3 [b2 = b2] rt1 <|
 .is 26 (show (c.kind == 13) = true from (by rw [hk]; rfl)) <| .run 3 [b5 = b5] rt1 <|
 .br 29 (((findN f c.ino).kind) != 3) (fun q2 => have p2 := bneT q2; .ord [0, 1, 2, 3] <| .run 1 [b1 = b1] rt1 <|
 .call (rref_spec 14) <|
 .run 2 [b3 = b3, b4 = b4] rt2 <|
 .fin (x := .tup [.agg (fsyA f), .agg [aI ((errR 14).e), aI ((errR 14).a), aI ((errR 14).b), aI ((errR 14).n), aS ((errR 14).text), .sl 1 false ((errR 14).names.map txA)]]) (r := .tup [.agg (fsyA (doF f c).1), .agg (repA (doF f c).2)]) [b3 = b3, b4 = b4] rt2 (by
  rw [link_no hk (ofE_14 (k := 3) q1 (bneT q2)).1 (by decide)]
  exact sR))
 <| fun q2 => have p2 := bneF q2; let J1 : Jn (Unit) := ⟨fun j1 => ⟨[(2, .ptr 2 b1 0), (3, .ptr 3 b2 0), (4, .ptr 4 b3 0), (5, .ptr 5 b4 0), (6, .ptr 6 b5 0)], [(2, .box b1 24 (fsyA f)), (3, .box b2 26 (calA c)), (4, .box b3 24 (fsyA f)), (5, .box b4 30 [aI 0, aI 0, aI 0, aI 0, aS ((findN f c.ino).text), aN]), (6, .box b5 59 [aI ((findN f c.ino).ino), aI ((findN f c.ino).kind), aI ((findN f c.ino).links), aS ((findN f c.ino).text), .sl 2 false ((findN f c.ino).l.map entA)])]⟩, fun _ => True⟩
 .cut J1 (.pick [0, 1] <| .run 2 [b1 = b1] rt1 <|
 .fork <| .alt (.run 1 [b5 = b5] rt1 <|
 .pick [3, 4, 5] <| .run 3 [b3 = b3, b4 = b4] rt2 <|
 .join J1 () trivial ⟨[(2, .ptr 2 b1 0), (3, .ptr 3 b2 0), (4, .ptr 4 b3 0), (5, .ptr 5 b4 0), (6, .ptr 6 b5 0)], [(2, .box b1 24 (fsyA f)), (3, .box b2 26 (calA c)), (4, .box b3 24 (fsyA f)), (5, .box b4 30 [aI 0, aI 0, aI 0, aI 0, aS ((findN f c.ino).text), aN]), (6, .box b5 59 [aI ((findN f c.ino).ino), aI ((findN f c.ino).kind), aI ((findN f c.ino).links), aS ((findN f c.ino).text), .sl 2 false ((findN f c.ino).l.map entA)])]⟩ sr5 ⟨⟨_, rfl, SubB.refl _⟩, ⟨_, rfl, SubB.refl _⟩, ⟨_, rfl, SubB.refl _⟩, ⟨_, rfl, SubB.refl _⟩, ⟨_, rfl, SubB.refl _⟩, trivial⟩)
 <| .run 1 [b3 = b3] rt1 <|
 .pick [2, 3, 5] <| .run 3 [b5 = b5, b4 = b4] rt2 <|
 .join J1 () trivial ⟨[(2, .ptr 2 b1 0), (3, .ptr 3 b2 0), (4, .ptr 4 b3 0), (5, .ptr 5 b4 0), (6, .ptr 6 b5 0)], [(2, .box b1 24 (fsyA f)), (3, .box b2 26 (calA c)), (4, .box b3 24 (fsyA f)), (5, .box b4 30 [aI 0, aI 0, aI 0, aI 0, aS ((findN f c.ino).text), aN]), (6, .box b5 59 [aI ((findN f c.ino).ino), aI ((findN f c.ino).kind), aI ((findN f c.ino).links), aS ((findN f c.ino).text), .sl 2 false ((findN f c.ino).l.map entA)])]⟩ sr5 ⟨⟨_, rfl, SubB.refl _⟩, ⟨_, rfl, SubB.refl _⟩, ⟨_, rfl, SubB.refl _⟩, ⟨_, rfl, SubB.refl _⟩, ⟨_, rfl, SubB.refl _⟩, trivial⟩)
 <| fun _ _ => .fin (x := .tup [.agg (fsyA f), .agg [aI 0, aI 0, aI 0, aI 0, aS ((findN f c.ino).text), aN]]) (r := .tup [.agg (fsyA (doF f c).1), .agg (repA (doF f c).2)]) [b3 = b3, b4 = b4] rt2 (by
  have h0 := (ofE_0 (k := 3) q1 (bneF q2)).1
  rw [link_yes hk h0]
  exact Sub.tups ⟨sR, rep_sub _ _ _ _ _, trivial⟩)) Tryz.func41 rfl (by kernel_rfl) (by kernel_rfl)
end Go.Proofs.YtkhnialfkndiiaaGreat
