/- What is put in, and taken out, is found so: the mathematics. dirs.enter, Add (its closure turns a box of its caller's). dirs.Add. dirs.full, Take where it finds nothing; a new tree; the example. -/
import Derived.Test.YtkepkbgebickiaaMrgM
import Derived.Test.YtkepkbgebickiaaMrgP
set_option linter.unusedVariables false
set_option linter.unusedSimpArgs false
namespace Go.Proofs.Ytkepkbgebickiaa
open Go Go.RowKit Copyhold
theorem out_rise {l : List Nod} {i : Int} (hr : RiseN l) : RiseN (outN l i) := by
  rw [outN_filter hr]
  exact List.Pairwise.filter _ hr
theorem find_out {f : Fsy} {i j : Int} (hr : RiseN f.l) : findB (outF f i) j = (if j = i then false else findB f j) ∧ findN (outF f i) j = (if j = i then nod0 else findN f j) := by
  have key : (outN f.l i).find? (isNo j) = if j = i then none else f.l.find? (isNo j) := by
    rw [outN_filter hr, List.find?_filter]
    by_cases h : j = i
    · rw [if_pos h]
      refine List.find?_eq_none.2 fun x _ => ?_
      subst h
      simp [isNo]
    · rw [if_neg h]
      congr 1
      funext x
      by_cases hx : x.ino = j
      · have : ¬ x.ino = i := by omega
        simp [isNo, hx, this, h]
      · simp [isNo, hx]
  have hb : ∀ f : Fsy, findB f j = (f.l.find? (isNo j)).isSome := fun f => by
    unfold findB
    induction f.l with
    | nil => rfl
    | cons n r ih =>
      simp only [List.any_cons, List.find?_cons]
      cases h : isNo j n <;> simp [ih]
  constructor
  · rw [hb, hb]
    show ((outN f.l i).find? (isNo j)).isSome = _
    rw [key]
    split <;> rfl
  · show ((outN f.l i).find? (isNo j)).getD nod0 = _
    rw [key]
    split <;> rfl
theorem mem_put {l : List Nod} {n x : Nod} (h : x ∈ putN l n) : x = n ∨ x ∈ l := by
  unfold putN at h
  rcases List.mem_append.1 h with h | h
  · exact .inr (List.mem_of_mem_take h)
  · rcases List.mem_cons.1 h with h | h
    · exact .inl h
    · exact .inr (List.mem_of_mem_drop h)
theorem put_ok {f : Fsy} {n : Nod} (okf : OkF f) (okn : OkN n) (hn : n.ino < 9223372036854775807) (hl : f.l.length ≤ 100000) : OkF (putF f n) := by
  refine ⟨?_, ?_, fun x hx => ?_⟩
  · show I64 (if n.ino + 1 > f.next then n.ino + 1 else f.next)
    split
    · exact ⟨by have := okn.1.1; omega, by omega⟩
    · exact okf.1
  · have := putN_le f.l n
    show (putN f.l n).length ≤ _
    omega
  · rcases mem_put hx with rfl | hx
    · exact okn
    · exact okf.2.2 x hx
theorem put_rise {l : List Nod} {n : Nod} (hr : RiseN l) : RiseN (putN l n) := by
  have hc := hr.cut n.ino
  have e : putN l n = l.take (plN l n.ino) ++ n :: (l.drop (plN l n.ino)).filter (fun x => x.ino != n.ino) := by unfold putN; rw [drop_filter hr]
  rw [e]
  refine List.pairwise_append.2 ⟨List.Pairwise.sublist (List.take_sublist _ _) hr, List.pairwise_cons.2 ⟨fun x hx => ?_, List.Pairwise.filter _ (List.Pairwise.sublist (List.drop_sublist _ _) hr)⟩, fun x hx y hy => ?_⟩
  · obtain ⟨h1, h2⟩ := List.mem_filter.1 hx
    have h3 := hc.2 x h1
    have h4 : ¬ x.ino = n.ino := by simpa using h2
    show n.ino < x.ino
    omega
  · have h1 := hc.1 x hx
    rcases List.mem_cons.1 hy with rfl | hy
    · exact h1
    · have h3 := hc.2 y (List.mem_filter.1 hy).1
      show x.ino < y.ino
      omega
theorem put_rows {f : Fsy} {n : Nod} (h : rowsP f) (hn : nodP n) (hl : f.l.length < 256) : rowsP (putF f n) := by
  obtain ⟨h1, h2, h3, h4⟩ := rowsP_iff.1 h
  have hnx : f.next ≤ (putF f n).next ∧ n.ino + 1 ≤ (putF f n).next := by
    show f.next ≤ (if n.ino + 1 > f.next then n.ino + 1 else f.next) ∧ n.ino + 1 ≤ (if n.ino + 1 > f.next then n.ino + 1 else f.next)
    split <;> omega
  refine rowsP_iff.2 ⟨by have := putN_le f.l n; show (putN f.l n).length ≤ 256; omega, by omega, fun x hx => ?_, put_rise h4⟩
  rcases mem_put hx with rfl | hx
  · exact ⟨hn, by omega⟩
  · have := h3 x hx
    exact ⟨this.1, by omega⟩
theorem find_unique {l : List Nod} {i : Int} {x : Nod} (hr : RiseN l) (hx : x ∈ l) (hi : x.ino = i) : l.find? (isNo i) = some x := by
  cases h : l.find? (isNo i) with
  | none => exact absurd (List.find?_eq_none.1 h x hx) (by simp [isNo, hi])
  | some y =>
    have hy := List.mem_of_find?_eq_some h
    have hp : (y.ino == i) = true := List.find?_some (p := isNo i) h
    obtain ⟨j, hj⟩ := List.getElem?_of_mem hx
    obtain ⟨k, hk⟩ := List.getElem?_of_mem hy
    have h3 := List.pairwise_iff_getElem.1 hr
    have l1 := lt_of_some hj
    have l2 := lt_of_some hk
    have e1 : l[j] = x := Option.some.inj ((List.getElem?_eq_getElem l1).symm.trans hj)
    have e2 : l[k] = y := Option.some.inj ((List.getElem?_eq_getElem l2).symm.trans hk)
    have hyi : y.ino = i := by simpa using hp
    rcases Nat.lt_trichotomy j k with hlt | rfl | hlt
    · have := h3 j k l1 l2 hlt; rw [e1, e2] at this; omega
    · rw [← e1, ← e2]
    · have := h3 k j l2 l1 hlt; rw [e1, e2] at this; omega
theorem findBN (f : Fsy) (j : Int) : findB f j = (f.l.find? (isNo j)).isSome := by
  unfold findB
  induction f.l with
  | nil => rfl
  | cons n r ih =>
    simp only [List.any_cons, List.find?_cons]
    cases h : isNo j n <;> simp [ih]
theorem find_put_self {f : Fsy} {n : Nod} (hr : RiseN f.l) : findB (putF f n) n.ino = true ∧ findN (putF f n) n.ino = n := by
  have h : (putN f.l n).find? (isNo n.ino) = some n := find_unique (put_rise hr) (by unfold putN; simp) rfl
  refine ⟨?_, ?_⟩
  · rw [findBN]; show ((putN f.l n).find? (isNo n.ino)).isSome = true; rw [h]; rfl
  · show ((putN f.l n).find? (isNo n.ino)).getD nod0 = n; rw [h]; rfl
theorem find_put_other {f : Fsy} {n : Nod} {j : Int} (hr : RiseN f.l) (hj : ¬ j = n.ino) : findB (putF f n) j = findB f j ∧ findN (putF f n) j = findN f j := by
  have key : (putN f.l n).find? (isNo j) = f.l.find? (isNo j) := by
    have e : putN f.l n = f.l.take (plN f.l n.ino) ++ n :: (f.l.drop (plN f.l n.ino)).filter (fun x => x.ino != n.ino) := by unfold putN; rw [drop_filter hr]
    have hn : isNo j n = false := by simp [isNo]; omega
    have e2 : ((f.l.drop (plN f.l n.ino)).filter (fun x => x.ino != n.ino)).find? (isNo j) = (f.l.drop (plN f.l n.ino)).find? (isNo j) := by
      rw [List.find?_filter]
      congr 1
      funext x
      by_cases hx : x.ino = j
      · have : ¬ x.ino = n.ino := by omega
        simp [isNo, hx, hj]
      · simp [isNo, hx]
    rw [e, List.find?_append, List.find?_cons, hn, e2]
    conv => rhs; rw [← List.take_append_drop (plN f.l n.ino) f.l, List.find?_append]
  exact ⟨by rw [findBN, findBN]; show ((putN f.l n).find? (isNo j)).isSome = _; rw [key], by show ((putN f.l n).find? (isNo j)).getD nod0 = _; rw [key]; rfl⟩
end Go.Proofs.Ytkepkbgebickiaa

set_option linter.unusedVariables false
set_option linter.unusedSimpArgs false
namespace Go.Proofs.Ytkepkbgebickiaa
open Go Go.RowKit Copyhold
def withL (n : Nod) (l : List Ent) : Nod := ⟨n.ino, n.kind, n.links, n.text, l⟩
noncomputable def enterF (f : Fsy) (d : Int) (s : Txt) (i : Int) : Fsy := putF f (withL (findN f d) (entL (findN f d).l s i))
theorem find_I64 {f : Fsy} (okf : OkF f) (hp : rowsP f) (i : Int) : I64 (findN f i).ino ∧ (findN f i).ino < 9223372036854775807 := by
  refine ⟨(findN_ok okf i).1, ?_⟩
  by_cases h : findB f i = true
  · have := ((rowsP_iff.1 hp).2.2.1 _ (find_mem h)).2
    have := okf.1.2
    omega
  · have h' : findB f i = false := by simpa using h
    unfold findN findB at *
    rw [List.find?_eq_none.2 fun x hx => by simpa using List.any_eq_false.1 h' x hx]
    decide
theorem find_srt {f : Fsy} (h : rowsP f) (i : Int) : Name.Srt (lI (findN f i).l) ∧ (findN f i).l.length ≤ 256 := by
  by_cases hb : findB f i = true
  · exact node_srt ((rowsP_iff.1 h).2.2.1 _ (find_mem hb)).1
  · have h' : findB f i = false := by simpa using hb
    unfold findN findB at *
    rw [List.find?_eq_none.2 fun x hx => by simpa using List.any_eq_false.1 h' x hx]
    exact ⟨List.Pairwise.nil, by decide⟩
set_option maxRecDepth 100000 in
set_option maxHeartbeats 4000000 in
theorem denter_spec (f : Fsy) (dir : Int) (s : Txt) (ino : Int) (okf : OkF f) (hp : rowsP f) (hs : s.length ≤ 1000000) (hi : I64 ino) : FSpec Try.prog 40 [.agg [.sl 5 false (f.l.map nodA), aI f.next], aI dir, aS s, aI ino] (.agg (fsyA (enterF f dir s ino))) := by
  have hl := hp.1
  have hr := rows_rise hp
  exact spec_vc (F := Try.f40) 400 (
 .new fun b1 => .new fun b2 => .run 2 [b1 = b1] ⟨rfl, trivial⟩ <|
 .call (tfind_spec f dir (by omega) hr) <|
 .r 3 <| .new fun b3 => .run 2 [b3 = b3] ⟨rfl, trivial⟩ <|
 .run 4 [b3 = b3] ⟨rfl, trivial⟩ <|
 .call (enter_spec ((findN f dir).l) s ino (find_srt hp dir).2 (find_srt hp dir).1 (by omega) hi) <|
 .run 5 [b3 = b3] ⟨rfl, trivial⟩ <|
 .run 2 [b1 = b1, b3 = b3] ⟨rfl, rfl, trivial⟩ <|
 .callS (args0 := [.agg [.sl 5 false (f.l.map nodA), aI f.next], .agg [aI ((findN f dir).ino), aI ((findN f dir).kind), aI ((findN f dir).links), aS ((findN f dir).text), .sl 2 false ((entL ((findN f dir).l) s ino).map entA)]]) (args := [.agg [.sl 5 false (f.l.map nodA), aI f.next], .agg [aI ((withL (findN f dir) (entL (findN f dir).l s ino)).ino), aI ((withL (findN f dir) (entL (findN f dir).l s ino)).kind), aI ((withL (findN f dir) (entL (findN f dir).l s ino)).links), aS ((withL (findN f dir) (entL (findN f dir).l s ino)).text), .sl 2 false ((withL (findN f dir) (entL (findN f dir).l s ino)).l.map entA)]]) ⟨Sub.refl _, Sub.refl _, trivial⟩ (put_spec f (withL (findN f dir) (entL (findN f dir).l s ino)) (find_I64 okf hp dir) (by omega) hr) <|
 .run 1 [b2 = b2] ⟨rfl, trivial⟩ <|
 .fin (x := .agg [.sl 5 false ((putF f (withL (findN f dir) (entL (findN f dir).l s ino))).l.map nodA), aI ((putF f (withL (findN f dir) (entL (findN f dir).l s ino))).next)]) (r := .agg (fsyA (enterF f dir s ino))) [b2 = b2] ⟨rfl, trivial⟩ (by exact Sub.refl _)) Try.func40 rfl (by kernel_rfl) (by kernel_rfl)
theorem enter_le (f : Fsy) (d : Int) (s : Txt) (i : Int) : (enterF f d s i).l.length ≤ f.l.length + 1 := putN_le _ _
theorem enter_rise {f : Fsy} (h : rowsP f) (d : Int) (s : Txt) (i : Int) : RiseN (enterF f d s i).l := put_rise (rows_rise h)
noncomputable def addF (f : Fsy) (d : Int) (s : Txt) (n : Nod) : Fsy := putF (enterF f d s n.ino) (withL n [])
set_option maxRecDepth 100000 in
set_option maxHeartbeats 4000000 in
theorem add1_spec (f : Fsy) (dir : Int) (s : Txt) (n : Nod) (b : Nat) (okf : OkF f) (hp : rowsP f) (hs : s.length ≤ 1000000) (hn : I64 n.ino ∧ n.ino < 9223372036854775807) : LSpec Try.prog 38 [.ptr 7 b 0, .dptr [.sl 5 false (f.l.map nodA), aI f.next], .dptr [aI dir], .dptr [aS s]] (.box b 31 [aI n.ino, aI n.kind, aI n.links, aS n.text, .sl 2 false (n.l.map entA)]) (.agg (fsyA (addF f dir s n))) := by
  have hl := hp.1
  have hr := rows_rise hp
  exact lspec_vc (q := 7) (F := Try.f38) 400 (
 .new fun b1 => .run 2 [b = b] ⟨rfl, trivial⟩ <|
 .ord [0, 1, 2, 3, 4, 6, 5, 7, 8] <| .run 6 [b = b, b = b] ⟨rfl, rfl, trivial⟩ <|
 .call (denter_spec f dir s n.ino okf hp (by omega) hn.1) <|
 .callS (args0 := [.agg [.sl 5 false ((enterF f dir s n.ino).l.map nodA), aI ((enterF f dir s n.ino).next)], .agg [aI n.ino, aI n.kind, aI n.links, aS n.text, aN]]) (args := [.agg [.sl 5 false ((enterF f dir s n.ino).l.map nodA), aI ((enterF f dir s n.ino).next)], .agg [aI ((withL n []).ino), aI ((withL n []).kind), aI ((withL n []).links), aS ((withL n []).text), .sl 2 false ((withL n []).l.map entA)]]) ⟨Sub.refl _, Sub.aggs ⟨Sub.refl _, Sub.refl _, Sub.refl _, Sub.refl _, Sub.nil _ _, trivial⟩, trivial⟩ (put_spec (enterF f dir s n.ino) (withL n []) hn (by have := enter_le f dir s n.ino; omega) (enter_rise hp dir s n.ino)) <|
 .run 1 [b1 = b1] ⟨rfl, trivial⟩ <|
 .fin (x := .agg [.sl 5 false ((putF (enterF f dir s n.ino) (withL n [])).l.map nodA), aI ((putF (enterF f dir s n.ino) (withL n [])).next)]) (r := .agg (fsyA (addF f dir s n))) [b1 = b1] ⟨rfl, trivial⟩ (by exact Sub.refl _)) Try.func38 rfl (by kernel_rfl) (by kernel_rfl)
set_option maxRecDepth 100000 in
set_option maxHeartbeats 4000000 in
theorem unless1_spec (e : Int) (f : Fsy) (dir : Int) (s : Txt) (n : Nod) (b : Nat) (okf : OkF f) (hp : rowsP f) (hs : s.length ≤ 1000000) (hn : I64 n.ino ∧ n.ino < 9223372036854775807) : LSpec Try.prog 37 [.agg [.sl 5 false (f.l.map nodA), aI f.next], aI e, .clo 38 [.ptr 7 b 0, .dptr [.sl 5 false (f.l.map nodA), aI f.next], .dptr [aI dir], .dptr [aS s]]] (.box b 31 [aI n.ino, aI n.kind, aI n.links, aS n.text, .sl 2 false (n.l.map entA)]) (.tup [.agg (fsyA (if e = 0 then addF f dir s n else f)), aI e]) := by
  exact lspec_vc (q := 7) (F := Try.f37) 400 (
 .new fun b1 => .new fun b2 => .r 1 <| .r 2 <| .br 9 (e != 0) (fun q1 => have p1 := bneT q1; .run 4 [b1 = b1, b2 = b2] ⟨rfl, rfl, trivial⟩ <|
 .fin (x := .tup [.agg [.sl 5 false (f.l.map nodA), aI f.next], aI e]) (r := .tup [.agg (fsyA (if e = 0 then addF f dir s n else f)), aI e]) [b2 = b2] ⟨rfl, trivial⟩ (by
    rw [if_neg (show ¬ e = 0 from by omega)]
    exact Sub.refl _))
 <| fun q1 => have p1 := bneF q1; .lent 1 <| .r 1 <| .lop (lcR Try.prog 7) ((38, [.ptr 7 b 0, .dptr [.sl 5 false (f.l.map nodA), aI f.next], .dptr [aI dir], .dptr [aS s]], some 13), .box b 31 [aI n.ino, aI n.kind, aI n.links, aS n.text, .sl 2 false (n.l.map entA)]) (fun (_ : Unit) σ => (σ.put (some 13) (.agg [.sl 5 false ((addF f dir s n).l.map nodA), aI ((addF f dir s n).next)])).setB 7 gone) (rule_lent (args' := [.ptr 7 b 0, .dptr [.sl 5 false (f.l.map nodA), aI f.next], .dptr [aI dir], .dptr [aS s]]) ⟨Sub.refl _, Sub.refl _, Sub.refl _, Sub.refl _, trivial⟩ (add1_spec f dir s n b okf hp hs hn)) fun _ =>
 .run 2 [b2 = b2] ⟨rfl, trivial⟩ <|
 .fin (x := .tup [.agg [.sl 5 false ((addF f dir s n).l.map nodA), aI ((addF f dir s n).next)], aI 0]) (r := .tup [.agg (fsyA (if e = 0 then addF f dir s n else f)), aI e]) [b2 = b2] ⟨rfl, trivial⟩ (by
    rw [if_pos (show e = 0 from by omega), show e = 0 from by omega]
    exact Sub.refl _)) Try.func37 rfl (by kernel_rfl) (by kernel_rfl)
end Go.Proofs.Ytkepkbgebickiaa

set_option linter.unusedVariables false
set_option linter.unusedSimpArgs false
namespace Go.Proofs.Ytkepkbgebickiaa
open Go Go.RowKit Copyhold
theorem first_lit5 {t : Bool} (a b c d e : Int) : Sub (.sl 1 t [[aI a], [aI b], [aI c], [aI d], [aI e]]) (.sl 1 false ([a, b, c, d, e].map intA)) := Sub.loose _ _ _
def addN (f : Fsy) (n : Nod) : Nod := ⟨f.next, n.kind, 1, n.text, n.l⟩
noncomputable def addErr (f : Fsy) (d : Int) (s : Txt) (n : Nod) : Int := firstE [dirE f d, checkE s, whenE (isB (dirN f d).l s) 7, whenE (decide ((f.l.length : Int) ≥ 256) || decide (((dirN f d).l.length : Int) ≥ 256)) 12, whenE ((!(dP (nodP (addN f n)))) || decide ((n.l.length : Int) > 0)) 1]
theorem addN_ok {f : Fsy} {n : Nod} (okf : OkF f) (okn : OkN n) : OkN (addN f n) := ⟨okf.1, okn.2.1, ⟨by show (_ : Int) ≤ 1; omega, by show (1 : Int) ≤ _; omega⟩, okn.2.2.2.1, okn.2.2.2.2.1, okn.2.2.2.2.2⟩
set_option maxRecDepth 100000 in
set_option maxHeartbeats 4000000 in
theorem add_spec (f : Fsy) (dir : Int) (s : Txt) (n : Nod) (okf : OkF f) (hp : rowsP f) (hs : s.length ≤ 1000000) (okn : OkN n) (hx : f.next < 9223372036854775807) : FSpec Try.prog 17 [.agg [.sl 5 false (f.l.map nodA), aI f.next], aI dir, aS s, .agg [aI n.ino, aI n.kind, aI n.links, aS n.text, .sl 2 false (n.l.map entA)]] (.tup [.agg (fsyA (if addErr f dir s n = 0 then addF f dir s (addN f n) else f)), aI (addErr f dir s n)]) := by
  have hl := hp.1
  have hr := rows_rise hp
  exact spec_vc (F := Try.f17) 400 (
 .new fun b1 => .new fun b2 => .new fun b3 => .new fun b4 => .new fun b5 => .r 1 <| .run 2 [b1 = b1, b2 = b2] ⟨rfl, rfl, trivial⟩ <|
 .call (dir_spec f dir hp) <|
 .r 3 <| .new fun b6 => .run 2 [b6 = b6] ⟨rfl, trivial⟩ <|
 .run 3 [b6 = b6, b3 = b3] ⟨rfl, rfl, trivial⟩ <|
 .call (nfind_spec ((dirN f dir).l) s (by have := (dir_srt hp dir).2; omega) (dir_srt hp dir).1) <|
 .r 5 <| .run 6 [b1 = b1, b4 = b4, b4 = b4] ⟨rfl, rfl, rfl, trivial⟩ <|
 .ord [0, 1, 3, 5, 6, 7, 8, 16, 2, 4, 9, 10, 11, 12, 13, 14, 15, 17, 18, 19, 20, 21, 22, 23, 24, 25, 26, 27, 28] <| .run 6 [b3 = b3, b1 = b1] ⟨rfl, rfl, trivial⟩ <|
 .val 38 (show (aI ((f.l.map nodA).length : Int) : AV) = aI (f.l.length : Int) from by rw [List.length_map]) <| .run 2 [b4 = b4] ⟨rfl, trivial⟩ <|
 .call (check_spec s (by omega)) <|
 .call (when_spec (isB ((dirN f dir).l) s) 7) <|
 .r 1 <| .br 40 (decide ((f.l.length : Int) ≥ 256)) (fun q1 => have p1 := decT q1; .r 5 <| .call (when_spec true 12) <|
 .callS (args0 := [.agg [aI f.next, aI n.kind, aI 1, aS n.text, .sl 2 false (n.l.map entA)]]) (args := [.agg [aI ((addN f n).ino), aI ((addN f n).kind), aI ((addN f n).links), aS ((addN f n).text), .sl 2 false ((addN f n).l.map entA)]]) ⟨Sub.refl _, trivial⟩ (nright_spec (addN f n) (addN_ok okf okn)) <|
 .r 2 <| .br 50 (!(dP (nodP (addN f n)))) (fun q2 => have q2 := notT q2; have p2 := booF q2; .r 5 <| .call (when_spec true 1) <|
 .r 1 <| .callS (args0 := [.sl 1 true ([[aI (dirE f dir)], [aI (checkE s)], [aI (whenE (isB ((dirN f dir).l) s) 7)], [aI (whenE true 12)], [aI (whenE true 1)]])]) (args := [.sl 1 false ([(dirE f dir), (checkE s), (whenE (isB ((dirN f dir).l) s) 7), (whenE true 12), (whenE true 1)].map intA)]) ⟨first_lit5 (dirE f dir) (checkE s) (whenE (isB ((dirN f dir).l) s) 7) (whenE true 12) (whenE true 1), trivial⟩ (first_spec [(dirE f dir), (checkE s), (whenE (isB ((dirN f dir).l) s) 7), (whenE true 12), (whenE true 1)] (by simp)) <|
 .r 1 <| .frz 4 [4, 5, 6, 7, 8, 9, 11, 40, 45, 50, 55] [5, 6, 7, 8] [b1 = b1] ⟨rfl, trivial⟩ <|
 .frz 5 [4, 5, 6, 7, 8, 9, 11, 40, 45, 50, 55] [6, 7, 8] [b2 = b2] ⟨rfl, trivial⟩ <|
 .frz 6 [4, 5, 6, 7, 8, 9, 11, 40, 45, 50, 55] [7, 8] [b3 = b3] ⟨rfl, trivial⟩ <|
 .lent 3 <| .r 3 <| .lop (lcR Try.prog 7) ((37, [.agg [.sl 5 false (f.l.map nodA), aI f.next], aI (firstE [(dirE f dir), (checkE s), (whenE (isB ((dirN f dir).l) s) 7), (whenE true 12), (whenE true 1)]), .clo 38 [.ptr 7 b4 0, .dptr [.sl 5 false (f.l.map nodA), aI f.next], .dptr [aI dir], .dptr [aS s]]], some 62), .box b4 31 [aI f.next, aI n.kind, aI 1, aS n.text, .sl 2 false (n.l.map entA)]) (fun (_ : Unit) σ => (σ.put (some 62) (.tup [.agg [.sl 5 false ((if firstE [(dirE f dir), (checkE s), (whenE (isB ((dirN f dir).l) s) 7), (whenE true 12), (whenE true 1)] = 0 then addF f dir s (addN f n) else f).l.map nodA), aI ((if firstE [(dirE f dir), (checkE s), (whenE (isB ((dirN f dir).l) s) 7), (whenE true 12), (whenE true 1)] = 0 then addF f dir s (addN f n) else f).next)], aI (firstE [(dirE f dir), (checkE s), (whenE (isB ((dirN f dir).l) s) 7), (whenE true 12), (whenE true 1)])])).setB 7 gone) (rule_lent (args' := [.agg [.sl 5 false (f.l.map nodA), aI f.next], aI (firstE [(dirE f dir), (checkE s), (whenE (isB ((dirN f dir).l) s) 7), (whenE true 12), (whenE true 1)]), .clo 38 [.ptr 7 b4 0, .dptr [.sl 5 false (f.l.map nodA), aI f.next], .dptr [aI dir], .dptr [aS s]]]) ⟨Sub.refl _, Sub.refl _, Sub.refl _, trivial⟩ (unless1_spec (firstE [(dirE f dir), (checkE s), (whenE (isB ((dirN f dir).l) s) 7), (whenE true 12), (whenE true 1)]) f dir s (addN f n) b4 okf hp hs ⟨okf.1, hx⟩)) fun _ =>
 .run 4 [b5 = b5] ⟨rfl, trivial⟩ <|
 .fin (x := .tup [.agg [.sl 5 false ((if firstE [(dirE f dir), (checkE s), (whenE (isB ((dirN f dir).l) s) 7), (whenE true 12), (whenE true 1)] = 0 then addF f dir s (addN f n) else f).l.map nodA), aI ((if firstE [(dirE f dir), (checkE s), (whenE (isB ((dirN f dir).l) s) 7), (whenE true 12), (whenE true 1)] = 0 then addF f dir s (addN f n) else f).next)], aI (firstE [(dirE f dir), (checkE s), (whenE (isB ((dirN f dir).l) s) 7), (whenE true 12), (whenE true 1)])]) (r := .tup [.agg (fsyA (if addErr f dir s n = 0 then addF f dir s (addN f n) else f)), aI (addErr f dir s n)]) [b5 = b5] ⟨rfl, trivial⟩ (by
    have e : addErr f dir s n = firstE [(dirE f dir), (checkE s), (whenE (isB ((dirN f dir).l) s) 7), (whenE true 12), (whenE true 1)] := by
      unfold addErr
      simp only [q1, q2, Bool.true_or, Bool.false_or, Bool.not_true, Bool.not_false]
    rw [e]
    exact Sub.refl _))
 <| fun q2 => have q2 := notF q2; have p2 := booT q2; .run 3 [b4 = b4] ⟨rfl, trivial⟩ <|
 .val 53 (show (aI ((n.l.map entA).length : Int) : AV) = aI (n.l.length : Int) from by rw [List.length_map]) <| .r 2 <| .call (when_spec (decide ((n.l.length : Int) > 0)) 1) <|
 .r 1 <| .callS (args0 := [.sl 1 true ([[aI (dirE f dir)], [aI (checkE s)], [aI (whenE (isB ((dirN f dir).l) s) 7)], [aI (whenE true 12)], [aI (whenE (decide ((n.l.length : Int) > 0)) 1)]])]) (args := [.sl 1 false ([(dirE f dir), (checkE s), (whenE (isB ((dirN f dir).l) s) 7), (whenE true 12), (whenE (decide ((n.l.length : Int) > 0)) 1)].map intA)]) ⟨first_lit5 (dirE f dir) (checkE s) (whenE (isB ((dirN f dir).l) s) 7) (whenE true 12) (whenE (decide ((n.l.length : Int) > 0)) 1), trivial⟩ (first_spec [(dirE f dir), (checkE s), (whenE (isB ((dirN f dir).l) s) 7), (whenE true 12), (whenE (decide ((n.l.length : Int) > 0)) 1)] (by simp)) <|
 .r 1 <| .frz 4 [4, 5, 6, 7, 8, 9, 11, 40, 45, 50] [5, 6, 7, 8] [b1 = b1] ⟨rfl, trivial⟩ <|
 .frz 5 [4, 5, 6, 7, 8, 9, 11, 40, 45, 50] [6, 7, 8] [b2 = b2] ⟨rfl, trivial⟩ <|
 .frz 6 [4, 5, 6, 7, 8, 9, 11, 40, 45, 50] [7, 8] [b3 = b3] ⟨rfl, trivial⟩ <|
 .lent 3 <| .r 3 <| .lop (lcR Try.prog 7) ((37, [.agg [.sl 5 false (f.l.map nodA), aI f.next], aI (firstE [(dirE f dir), (checkE s), (whenE (isB ((dirN f dir).l) s) 7), (whenE true 12), (whenE (decide ((n.l.length : Int) > 0)) 1)]), .clo 38 [.ptr 7 b4 0, .dptr [.sl 5 false (f.l.map nodA), aI f.next], .dptr [aI dir], .dptr [aS s]]], some 62), .box b4 31 [aI f.next, aI n.kind, aI 1, aS n.text, .sl 2 false (n.l.map entA)]) (fun (_ : Unit) σ => (σ.put (some 62) (.tup [.agg [.sl 5 false ((if firstE [(dirE f dir), (checkE s), (whenE (isB ((dirN f dir).l) s) 7), (whenE true 12), (whenE (decide ((n.l.length : Int) > 0)) 1)] = 0 then addF f dir s (addN f n) else f).l.map nodA), aI ((if firstE [(dirE f dir), (checkE s), (whenE (isB ((dirN f dir).l) s) 7), (whenE true 12), (whenE (decide ((n.l.length : Int) > 0)) 1)] = 0 then addF f dir s (addN f n) else f).next)], aI (firstE [(dirE f dir), (checkE s), (whenE (isB ((dirN f dir).l) s) 7), (whenE true 12), (whenE (decide ((n.l.length : Int) > 0)) 1)])])).setB 7 gone) (rule_lent (args' := [.agg [.sl 5 false (f.l.map nodA), aI f.next], aI (firstE [(dirE f dir), (checkE s), (whenE (isB ((dirN f dir).l) s) 7), (whenE true 12), (whenE (decide ((n.l.length : Int) > 0)) 1)]), .clo 38 [.ptr 7 b4 0, .dptr [.sl 5 false (f.l.map nodA), aI f.next], .dptr [aI dir], .dptr [aS s]]]) ⟨Sub.refl _, Sub.refl _, Sub.refl _, trivial⟩ (unless1_spec (firstE [(dirE f dir), (checkE s), (whenE (isB ((dirN f dir).l) s) 7), (whenE true 12), (whenE (decide ((n.l.length : Int) > 0)) 1)]) f dir s (addN f n) b4 okf hp hs ⟨okf.1, hx⟩)) fun _ =>
 .run 4 [b5 = b5] ⟨rfl, trivial⟩ <|
 .fin (x := .tup [.agg [.sl 5 false ((if firstE [(dirE f dir), (checkE s), (whenE (isB ((dirN f dir).l) s) 7), (whenE true 12), (whenE (decide ((n.l.length : Int) > 0)) 1)] = 0 then addF f dir s (addN f n) else f).l.map nodA), aI ((if firstE [(dirE f dir), (checkE s), (whenE (isB ((dirN f dir).l) s) 7), (whenE true 12), (whenE (decide ((n.l.length : Int) > 0)) 1)] = 0 then addF f dir s (addN f n) else f).next)], aI (firstE [(dirE f dir), (checkE s), (whenE (isB ((dirN f dir).l) s) 7), (whenE true 12), (whenE (decide ((n.l.length : Int) > 0)) 1)])]) (r := .tup [.agg (fsyA (if addErr f dir s n = 0 then addF f dir s (addN f n) else f)), aI (addErr f dir s n)]) [b5 = b5] ⟨rfl, trivial⟩ (by
    have e : addErr f dir s n = firstE [(dirE f dir), (checkE s), (whenE (isB ((dirN f dir).l) s) 7), (whenE true 12), (whenE (decide ((n.l.length : Int) > 0)) 1)] := by
      unfold addErr
      simp only [q1, q2, Bool.true_or, Bool.false_or, Bool.not_true, Bool.not_false]
    rw [e]
    exact Sub.refl _))
 <| fun q1 => have p1 := decF q1; .run 3 [b6 = b6] ⟨rfl, trivial⟩ <|
 .val 43 (show (aI (((dirN f dir).l.map entA).length : Int) : AV) = aI (((dirN f dir).l).length : Int) from by rw [List.length_map]) <| .r 2 <| .call (when_spec (decide ((((dirN f dir).l).length : Int) ≥ 256)) 12) <|
 .callS (args0 := [.agg [aI f.next, aI n.kind, aI 1, aS n.text, .sl 2 false (n.l.map entA)]]) (args := [.agg [aI ((addN f n).ino), aI ((addN f n).kind), aI ((addN f n).links), aS ((addN f n).text), .sl 2 false ((addN f n).l.map entA)]]) ⟨Sub.refl _, trivial⟩ (nright_spec (addN f n) (addN_ok okf okn)) <|
 .r 2 <| .br 50 (!(dP (nodP (addN f n)))) (fun q3 => have q3 := notT q3; have p3 := booF q3; .r 5 <| .call (when_spec true 1) <|
 .r 1 <| .callS (args0 := [.sl 1 true ([[aI (dirE f dir)], [aI (checkE s)], [aI (whenE (isB ((dirN f dir).l) s) 7)], [aI (whenE (decide ((((dirN f dir).l).length : Int) ≥ 256)) 12)], [aI (whenE true 1)]])]) (args := [.sl 1 false ([(dirE f dir), (checkE s), (whenE (isB ((dirN f dir).l) s) 7), (whenE (decide ((((dirN f dir).l).length : Int) ≥ 256)) 12), (whenE true 1)].map intA)]) ⟨first_lit5 (dirE f dir) (checkE s) (whenE (isB ((dirN f dir).l) s) 7) (whenE (decide ((((dirN f dir).l).length : Int) ≥ 256)) 12) (whenE true 1), trivial⟩ (first_spec [(dirE f dir), (checkE s), (whenE (isB ((dirN f dir).l) s) 7), (whenE (decide ((((dirN f dir).l).length : Int) ≥ 256)) 12), (whenE true 1)] (by simp)) <|
 .r 1 <| .frz 4 [4, 5, 6, 7, 8, 9, 11, 40, 50, 55] [5, 6, 7, 8] [b1 = b1] ⟨rfl, trivial⟩ <|
 .frz 5 [4, 5, 6, 7, 8, 9, 11, 40, 50, 55] [6, 7, 8] [b2 = b2] ⟨rfl, trivial⟩ <|
 .frz 6 [4, 5, 6, 7, 8, 9, 11, 40, 50, 55] [7, 8] [b3 = b3] ⟨rfl, trivial⟩ <|
 .lent 3 <| .r 3 <| .lop (lcR Try.prog 7) ((37, [.agg [.sl 5 false (f.l.map nodA), aI f.next], aI (firstE [(dirE f dir), (checkE s), (whenE (isB ((dirN f dir).l) s) 7), (whenE (decide ((((dirN f dir).l).length : Int) ≥ 256)) 12), (whenE true 1)]), .clo 38 [.ptr 7 b4 0, .dptr [.sl 5 false (f.l.map nodA), aI f.next], .dptr [aI dir], .dptr [aS s]]], some 62), .box b4 31 [aI f.next, aI n.kind, aI 1, aS n.text, .sl 2 false (n.l.map entA)]) (fun (_ : Unit) σ => (σ.put (some 62) (.tup [.agg [.sl 5 false ((if firstE [(dirE f dir), (checkE s), (whenE (isB ((dirN f dir).l) s) 7), (whenE (decide ((((dirN f dir).l).length : Int) ≥ 256)) 12), (whenE true 1)] = 0 then addF f dir s (addN f n) else f).l.map nodA), aI ((if firstE [(dirE f dir), (checkE s), (whenE (isB ((dirN f dir).l) s) 7), (whenE (decide ((((dirN f dir).l).length : Int) ≥ 256)) 12), (whenE true 1)] = 0 then addF f dir s (addN f n) else f).next)], aI (firstE [(dirE f dir), (checkE s), (whenE (isB ((dirN f dir).l) s) 7), (whenE (decide ((((dirN f dir).l).length : Int) ≥ 256)) 12), (whenE true 1)])])).setB 7 gone) (rule_lent (args' := [.agg [.sl 5 false (f.l.map nodA), aI f.next], aI (firstE [(dirE f dir), (checkE s), (whenE (isB ((dirN f dir).l) s) 7), (whenE (decide ((((dirN f dir).l).length : Int) ≥ 256)) 12), (whenE true 1)]), .clo 38 [.ptr 7 b4 0, .dptr [.sl 5 false (f.l.map nodA), aI f.next], .dptr [aI dir], .dptr [aS s]]]) ⟨Sub.refl _, Sub.refl _, Sub.refl _, trivial⟩ (unless1_spec (firstE [(dirE f dir), (checkE s), (whenE (isB ((dirN f dir).l) s) 7), (whenE (decide ((((dirN f dir).l).length : Int) ≥ 256)) 12), (whenE true 1)]) f dir s (addN f n) b4 okf hp hs ⟨okf.1, hx⟩)) fun _ =>
 .run 4 [b5 = b5] ⟨rfl, trivial⟩ <|
 .fin (x := .tup [.agg [.sl 5 false ((if firstE [(dirE f dir), (checkE s), (whenE (isB ((dirN f dir).l) s) 7), (whenE (decide ((((dirN f dir).l).length : Int) ≥ 256)) 12), (whenE true 1)] = 0 then addF f dir s (addN f n) else f).l.map nodA), aI ((if firstE [(dirE f dir), (checkE s), (whenE (isB ((dirN f dir).l) s) 7), (whenE (decide ((((dirN f dir).l).length : Int) ≥ 256)) 12), (whenE true 1)] = 0 then addF f dir s (addN f n) else f).next)], aI (firstE [(dirE f dir), (checkE s), (whenE (isB ((dirN f dir).l) s) 7), (whenE (decide ((((dirN f dir).l).length : Int) ≥ 256)) 12), (whenE true 1)])]) (r := .tup [.agg (fsyA (if addErr f dir s n = 0 then addF f dir s (addN f n) else f)), aI (addErr f dir s n)]) [b5 = b5] ⟨rfl, trivial⟩ (by
    have e : addErr f dir s n = firstE [(dirE f dir), (checkE s), (whenE (isB ((dirN f dir).l) s) 7), (whenE (decide ((((dirN f dir).l).length : Int) ≥ 256)) 12), (whenE true 1)] := by
      unfold addErr
      simp only [q1, q3, Bool.true_or, Bool.false_or, Bool.not_true, Bool.not_false]
    rw [e]
    exact Sub.refl _))
 <| fun q3 => have q3 := notF q3; have p3 := booT q3; .run 3 [b4 = b4] ⟨rfl, trivial⟩ <|
 .val 53 (show (aI ((n.l.map entA).length : Int) : AV) = aI (n.l.length : Int) from by rw [List.length_map]) <| .r 2 <| .call (when_spec (decide ((n.l.length : Int) > 0)) 1) <|
 .r 1 <| .callS (args0 := [.sl 1 true ([[aI (dirE f dir)], [aI (checkE s)], [aI (whenE (isB ((dirN f dir).l) s) 7)], [aI (whenE (decide ((((dirN f dir).l).length : Int) ≥ 256)) 12)], [aI (whenE (decide ((n.l.length : Int) > 0)) 1)]])]) (args := [.sl 1 false ([(dirE f dir), (checkE s), (whenE (isB ((dirN f dir).l) s) 7), (whenE (decide ((((dirN f dir).l).length : Int) ≥ 256)) 12), (whenE (decide ((n.l.length : Int) > 0)) 1)].map intA)]) ⟨first_lit5 (dirE f dir) (checkE s) (whenE (isB ((dirN f dir).l) s) 7) (whenE (decide ((((dirN f dir).l).length : Int) ≥ 256)) 12) (whenE (decide ((n.l.length : Int) > 0)) 1), trivial⟩ (first_spec [(dirE f dir), (checkE s), (whenE (isB ((dirN f dir).l) s) 7), (whenE (decide ((((dirN f dir).l).length : Int) ≥ 256)) 12), (whenE (decide ((n.l.length : Int) > 0)) 1)] (by simp)) <|
 .r 1 <| .frz 4 [4, 5, 6, 7, 8, 9, 11, 40, 50] [5, 6, 7, 8] [b1 = b1] ⟨rfl, trivial⟩ <|
 .frz 5 [4, 5, 6, 7, 8, 9, 11, 40, 50] [6, 7, 8] [b2 = b2] ⟨rfl, trivial⟩ <|
 .frz 6 [4, 5, 6, 7, 8, 9, 11, 40, 50] [7, 8] [b3 = b3] ⟨rfl, trivial⟩ <|
 .lent 3 <| .r 3 <| .lop (lcR Try.prog 7) ((37, [.agg [.sl 5 false (f.l.map nodA), aI f.next], aI (firstE [(dirE f dir), (checkE s), (whenE (isB ((dirN f dir).l) s) 7), (whenE (decide ((((dirN f dir).l).length : Int) ≥ 256)) 12), (whenE (decide ((n.l.length : Int) > 0)) 1)]), .clo 38 [.ptr 7 b4 0, .dptr [.sl 5 false (f.l.map nodA), aI f.next], .dptr [aI dir], .dptr [aS s]]], some 62), .box b4 31 [aI f.next, aI n.kind, aI 1, aS n.text, .sl 2 false (n.l.map entA)]) (fun (_ : Unit) σ => (σ.put (some 62) (.tup [.agg [.sl 5 false ((if firstE [(dirE f dir), (checkE s), (whenE (isB ((dirN f dir).l) s) 7), (whenE (decide ((((dirN f dir).l).length : Int) ≥ 256)) 12), (whenE (decide ((n.l.length : Int) > 0)) 1)] = 0 then addF f dir s (addN f n) else f).l.map nodA), aI ((if firstE [(dirE f dir), (checkE s), (whenE (isB ((dirN f dir).l) s) 7), (whenE (decide ((((dirN f dir).l).length : Int) ≥ 256)) 12), (whenE (decide ((n.l.length : Int) > 0)) 1)] = 0 then addF f dir s (addN f n) else f).next)], aI (firstE [(dirE f dir), (checkE s), (whenE (isB ((dirN f dir).l) s) 7), (whenE (decide ((((dirN f dir).l).length : Int) ≥ 256)) 12), (whenE (decide ((n.l.length : Int) > 0)) 1)])])).setB 7 gone) (rule_lent (args' := [.agg [.sl 5 false (f.l.map nodA), aI f.next], aI (firstE [(dirE f dir), (checkE s), (whenE (isB ((dirN f dir).l) s) 7), (whenE (decide ((((dirN f dir).l).length : Int) ≥ 256)) 12), (whenE (decide ((n.l.length : Int) > 0)) 1)]), .clo 38 [.ptr 7 b4 0, .dptr [.sl 5 false (f.l.map nodA), aI f.next], .dptr [aI dir], .dptr [aS s]]]) ⟨Sub.refl _, Sub.refl _, Sub.refl _, trivial⟩ (unless1_spec (firstE [(dirE f dir), (checkE s), (whenE (isB ((dirN f dir).l) s) 7), (whenE (decide ((((dirN f dir).l).length : Int) ≥ 256)) 12), (whenE (decide ((n.l.length : Int) > 0)) 1)]) f dir s (addN f n) b4 okf hp hs ⟨okf.1, hx⟩)) fun _ =>
 .run 4 [b5 = b5] ⟨rfl, trivial⟩ <|
 .fin (x := .tup [.agg [.sl 5 false ((if firstE [(dirE f dir), (checkE s), (whenE (isB ((dirN f dir).l) s) 7), (whenE (decide ((((dirN f dir).l).length : Int) ≥ 256)) 12), (whenE (decide ((n.l.length : Int) > 0)) 1)] = 0 then addF f dir s (addN f n) else f).l.map nodA), aI ((if firstE [(dirE f dir), (checkE s), (whenE (isB ((dirN f dir).l) s) 7), (whenE (decide ((((dirN f dir).l).length : Int) ≥ 256)) 12), (whenE (decide ((n.l.length : Int) > 0)) 1)] = 0 then addF f dir s (addN f n) else f).next)], aI (firstE [(dirE f dir), (checkE s), (whenE (isB ((dirN f dir).l) s) 7), (whenE (decide ((((dirN f dir).l).length : Int) ≥ 256)) 12), (whenE (decide ((n.l.length : Int) > 0)) 1)])]) (r := .tup [.agg (fsyA (if addErr f dir s n = 0 then addF f dir s (addN f n) else f)), aI (addErr f dir s n)]) [b5 = b5] ⟨rfl, trivial⟩ (by
    have e : addErr f dir s n = firstE [(dirE f dir), (checkE s), (whenE (isB ((dirN f dir).l) s) 7), (whenE (decide ((((dirN f dir).l).length : Int) ≥ 256)) 12), (whenE (decide ((n.l.length : Int) > 0)) 1)] := by
      unfold addErr
      simp only [q1, q3, Bool.true_or, Bool.false_or, Bool.not_true, Bool.not_false]
    rw [e]
    exact Sub.refl _)) Try.func17 rfl (by kernel_rfl) (by kernel_rfl)
end Go.Proofs.Ytkepkbgebickiaa

set_option linter.unusedVariables false
set_option linter.unusedSimpArgs false
namespace Go.Proofs.Ytkepkbgebickiaa
open Go Go.RowKit Copyhold
def rootN : Nod := ⟨1, 2, 0, [], []⟩
def newF : Fsy := ⟨[rootN], 2⟩
theorem sl1_of {k : Nat} {t : Bool} {e e' : List AV} (h : SubAll e e') : Sub (.sl k t [e]) (.sl k false [e']) :=
  (Sub.sl2 (t := t) (xs := [e]) (ys := [e']) rfl (fun i a b ha hb => by
    match i, ha, hb with
    | 0, ha, hb => simp at ha hb; rw [← ha, ← hb]; exact h
    | i + 1, ha, _ => simp at ha)).trans (Sub.loose _ _ _)
theorem rootN_ok : OkN rootN := ⟨⟨by decide, by decide⟩, ⟨by decide, by decide⟩, ⟨by decide, by decide⟩, by show (0 : Nat) ≤ _; omega, by show (0 : Nat) ≤ _; omega, fun e h => by cases h⟩
theorem newF_ok : OkF newF := ⟨⟨by decide, by decide⟩, by show (1 : Nat) ≤ _; omega, fun n h => by obtain rfl := List.mem_singleton.1 h; exact rootN_ok⟩
theorem newF_rise : RiseN newF.l := by simp [newF, RiseN, RiseF]
theorem newF_rows : rowsP newF := rowsP_iff.2 ⟨by decide, by decide, fun n h => by
  obtain rfl := List.mem_singleton.1 h
  exact ⟨⟨by decide, by decide, by decide, .inl ⟨rfl, rfl, rowP_nil⟩⟩, by decide⟩, newF_rise⟩
def fullB (n : Nod) : Bool := n.kind == 2 && decide ((n.l.length : Int) > 0)
set_option maxRecDepth 100000 in
set_option maxHeartbeats 4000000 in
theorem full_spec (n : Nod) (hl : n.l.length ≤ 8796093022207) : FSpec Try.prog 41 [.agg [aI n.ino, aI n.kind, aI n.links, aS n.text, .sl 2 false (n.l.map entA)]] (aB (fullB n)) := by
  exact spec_vc (F := Try.f41) 400 (
 .new fun b1 => .r 1 <| .run 4 [b1 = b1] ⟨rfl, trivial⟩ <|
 .br 6 (n.kind == 2) (fun q1 => have p1 := beqT q1; .run 3 [b1 = b1] ⟨rfl, trivial⟩ <|
 .val 9 (show (aI ((n.l.map entA).length : Int) : AV) = aI (n.l.length : Int) from by rw [List.length_map]) <| .r 3 <| .fin (x := aB (decide ((n.l.length : Int) > 0))) (r := aB (fullB n)) [] trivial (by exact Sub.of_eq (congrArg aB (by unfold fullB; simp_all))))
 <| fun q1 => have p1 := beqF q1; .r 6 <| .fin (x := aB false) (r := aB (fullB n)) [] trivial (by exact Sub.of_eq (congrArg aB (by unfold fullB; simp_all)))) Try.func41 rfl (by kernel_rfl) (by kernel_rfl)
set_option maxRecDepth 100000 in
set_option maxHeartbeats 4000000 in
theorem unless_no (f : Fsy) (e : Int) (he : ¬ e = 0) : FSpec Try.prog 37 [.agg [.sl 5 false (f.l.map nodA), aI f.next], aI e, .any] (.tup [.agg (fsyA f), aI e]) := by
  exact spec_vc (F := Try.f37) 400 (
 .new fun b1 => .new fun b2 => .r 1 <| .r 2 <| .is 9 (show (e != 0) = true from (by simp [he])) <| .run 4 [b1 = b1, b2 = b2] ⟨rfl, rfl, trivial⟩ <|
 .fin (x := .tup [.agg [.sl 5 false (f.l.map nodA), aI f.next], aI e]) (r := .tup [.agg (fsyA f), aI e]) [b2 = b2] ⟨rfl, trivial⟩ (by exact Sub.refl _)) Try.func37 rfl (by kernel_rfl) (by kernel_rfl)
set_option maxRecDepth 100000 in
set_option maxHeartbeats 4000000 in
theorem take_no (f : Fsy) (dir : Int) (s : Txt) (hp : rowsP f) (hs : s.length ≤ 1000000) (hne : ¬ lookE f dir s = 0) (hll : (lookN f dir s).l.length ≤ 8796093022207) : FSpec Try.prog 18 [.agg [.sl 5 false (f.l.map nodA), aI f.next], aI dir, aS s] (.tup [.agg (fsyA f), aI (lookE f dir s)]) := by
  have hl := hp.1
  have hr := rows_rise hp
  exact spec_vc (F := Try.f18) 400 (
 .new fun b1 => .new fun b2 => .new fun b3 => .new fun b4 => .r 1 <| .run 3 [b1 = b1, b2 = b2, b3 = b3] ⟨rfl, rfl, rfl, trivial⟩ <|
 .call (look_spec f dir s hp hs) <|
 .r 3 <| .new fun b5 => .run 2 [b5 = b5] ⟨rfl, trivial⟩ <|
 .run 2 [b5 = b5] ⟨rfl, trivial⟩ <|
 .call (full_spec (lookN f dir s) hll) <|
 .call (when_spec (fullB (lookN f dir s)) 11) <|
 .r 1 <| .callS (args0 := [.sl 1 true ([[aI (lookE f dir s)], [aI (whenE (fullB (lookN f dir s)) 11)]])]) (args := [.sl 1 false ([(lookE f dir s), (whenE (fullB (lookN f dir s)) 11)].map intA)]) ⟨first_lit2 (lookE f dir s) (whenE (fullB (lookN f dir s)) 11), trivial⟩ (first_spec [(lookE f dir s), (whenE (fullB (lookN f dir s)) 11)] (by simp)) <|
 .r 1 <| .frz 3 [3, 4, 5, 6, 7, 8, 9] [4, 5, 6, 8] [b1 = b1] ⟨rfl, trivial⟩ <|
 .frz 4 [3, 4, 5, 6, 7, 8, 9] [5, 6, 8] [b2 = b2] ⟨rfl, trivial⟩ <|
 .frz 5 [3, 4, 5, 6, 7, 8, 9] [6, 8] [b3 = b3] ⟨rfl, trivial⟩ <|
 .frz 8 [3, 4, 5, 6, 7, 8, 9] [6] [b5 = b5] ⟨rfl, trivial⟩ <|
 .r 3 <| .callS (args0 := [.agg [.sl 5 false (f.l.map nodA), aI f.next], aI (firstE [(lookE f dir s), (whenE (fullB (lookN f dir s)) 11)]), .clo 42 [.dptr [.sl 5 false (f.l.map nodA), aI f.next], .dptr [aI dir], .dptr [aS s], .dptr [aI ((lookN f dir s).ino), aI ((lookN f dir s).kind), aI ((lookN f dir s).links), aS ((lookN f dir s).text), .sl 2 false ((lookN f dir s).l.map entA)]]]) (args := [.agg [.sl 5 false (f.l.map nodA), aI f.next], aI (firstE [(lookE f dir s), (whenE (fullB (lookN f dir s)) 11)]), .any]) ⟨Sub.refl _, Sub.refl _, Sub.any _, trivial⟩ (unless_no f (firstE [(lookE f dir s), (whenE (fullB (lookN f dir s)) 11)]) (by rw [first2, if_neg hne]; exact hne)) <|
 .run 4 [b4 = b4] ⟨rfl, trivial⟩ <|
 .fin (x := .tup [.agg [.sl 5 false (f.l.map nodA), aI f.next], aI (firstE [(lookE f dir s), (whenE (fullB (lookN f dir s)) 11)])]) (r := .tup [.agg (fsyA f), aI (lookE f dir s)]) [b4 = b4] ⟨rfl, trivial⟩ (by
    rw [show firstE [lookE f dir s, _] = lookE f dir s from by rw [first2, if_neg hne]]
    exact Sub.refl _)) Try.func18 rfl (by kernel_rfl) (by kernel_rfl)
set_option maxRecDepth 100000 in
set_option maxHeartbeats 4000000 in
theorem rnew_spec  : FSpec Try.prog 22 [] (.agg (fsyA newF)) := by
  exact spec_vc (F := Try.f22) 400 (
 .new fun b1 => .run 4 [b1 = b1] ⟨rfl, trivial⟩ <|
 .fin (x := .agg [.sl 5 true ([[aI 1, aI 2, aI 0, aS ([]), aN]]), aI 2]) (r := .agg (fsyA newF)) [b1 = b1] ⟨rfl, trivial⟩ (by exact Sub.aggs ⟨sl1_of ⟨Sub.refl _, Sub.refl _, Sub.refl _, Sub.refl _, Sub.nil _ _, trivial⟩, Sub.refl _, trivial⟩)) Try.func22 rfl (by kernel_rfl) (by kernel_rfl)
end Go.Proofs.Ytkepkbgebickiaa
