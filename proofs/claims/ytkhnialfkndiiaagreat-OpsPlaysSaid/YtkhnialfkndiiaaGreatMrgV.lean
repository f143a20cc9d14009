import Derived.Test.YtkhnialfkndiiaaGreatMrgU
import Derived.Test.YtkhnialfkndiiaaGreatMrgN
set_option maxRecDepth 100000
set_option maxHeartbeats 8000000
set_option linter.unusedVariables false
set_option linter.unusedSimpArgs false
namespace Go.Proofs.YtkhnialfkndiiaaGreat
open Go Go.RowKit Copyhold
open Copyhold.Name (Srt insE delE getE isAt)
theorem sum_one (K : Nod → Nat) {f g : Fsy} {i : Int} (hf : RiseN f.l) (hg : RiseN g.l) (h : ∀ j, ¬ j = i → atF g j = atF f j) : (g.l.map K).sum + KO K (atF f i) = (f.l.map K).sum + KO K (atF g i) := by
 have e : (g.l.filter fun n => !isNo i n) = f.l.filter fun n => !isNo i n := rise_ext (List.Pairwise.filter _ hg) (List.Pairwise.filter _ hf) fun x => by
  rw [List.mem_filter, List.mem_filter]
  by_cases hx : x.ino = i
  ·simp [isNo, hx]
  ·rw [mem_at hf, mem_at hg, h _ hx]
 rw [sum_split K i hf, sum_split K i hg, e]
 unfold atF
 omega
def wK (n : Nod) : Nat := 1 + n.l.length
def wF (f : Fsy) : Nat := (f.l.map wK).sum
theorem wF_eq (f : Fsy) : wF f = f.l.length + (f.l.map wN).sum := by
 unfold wF
 induction f.l with
 | nil => rfl
 | cons x r ih =>
  simp only [List.map_cons, List.sum_cons, List.length_cons]
  rw [ih]
  have : wK x = 1 + wN x := rfl
  omega
theorem w_put {f : Fsy} {n : Nod} (hr : RiseN f.l) : wF (putF f n) + KO wK (atF f n.ino) = wF f + wK n := by
 have := sum_one wK (i := n.ino) hr (put_rise (n := n) hr) (fun j hj => by rw [at_put hr, if_neg hj])
 rw [at_put hr, if_pos rfl] at this
 exact this
theorem w_set {f : Fsy} {i : Int} {d : Nod} {l : List Ent} (hr : RiseN f.l) (hd : atF f i = some d) : wF (setL f d l) + d.l.length = wF f + l.length := by
 have := w_put (n := withL d l) hr
 rw [show (withL d l).ino = i from (show d.ino = i from at_ino hd), hd] at this
 have e1 : KO wK (some d) = 1 + d.l.length := rfl
 have e2 : wK (withL d l) = 1 + l.length := rfl
 unfold setL
 omega
theorem w_out {f : Fsy} {i : Int} (hr : RiseN f.l) (h2 : RiseN (outF f i).l) : wF (outF f i) ≤ wF f := by
 have := sum_one wK (i := i) hr h2 (fun j hj => by rw [at_out hr, if_neg hj])
 rw [at_out hr, if_pos rfl] at this
 have e : KO wK none = 0 := rfl
 unfold wF
 omega
structure Kept (f g : Fsy) : Prop where
 ok : OkF g
 tree : TreeP g
 next : f.next ≤ g.next ∧ g.next ≤ f.next + 1
 few : wF g ≤ wF f + 2
theorem Kept.self {f : Fsy} (okf : OkF f) (T : TreeP f) : Kept f f := ⟨okf, T, ⟨Int.le_refl _, by omega⟩, by omega⟩
theorem kept_add {f : Fsy} {dir : Int} {s : Txt} {n : Nod} (okf : OkF f) (T : TreeP f) (okn : OkN n) (hs : s.length ≤ 1000000) (hx : f.next < 4611686018427387904) (he : addErr f dir s n = 0) : Kept f (addF f dir s (addN f n)) := by
 have hp := T.rows
 have hr := rows_rise hp
 obtain ⟨b1, _⟩ := back_facts hp he
 have ho := add_ok okf hp okn hs he hx
 obtain ⟨d, A⟩ := adds_of he
 obtain ⟨d1, d2, d3⟩ := rows_at hp A.dir
 have hrow := (dir_row d1 A.kind).2
 have hn1 : 1 ≤ f.next := by have := d1.1; omega
 have he0 := entE_cases (n := f.next) A.check hn1 A.away A.fewd
 obtain ⟨s1, s2, s3, s4⟩ := setL_rows hp A.dir A.kind (ent_row hrow A.check hn1 A.away A.fewd)
 have hg : addF f dir s (addN f n) = putF (setL f d (entL d.l s f.next)) (withL (addN f n) []) := by
  unfold addF
  rw [show (addN f n).ino = f.next from rfl, enter_set A.dir]
 have hat : ∀ j, atF (addF f dir s (addN f n)) j = if j = f.next then some (withL (addN f n) []) else if j = dir then some (withL d (entL d.l s f.next)) else atF f j := fun j => by
  rw [hg, at_put (rows_rise s1), s4]
  rfl
 have h0 := at_next hp
 have hnm : nam f f.next = 0 := Nat.eq_zero_of_not_pos fun h => by
  obtain ⟨q, hq⟩ := (nam_pos hr).1 h
  obtain ⟨⟨m, hm⟩, _⟩ := T.kid q _ hq
  rw [h0] at hm; cases hm
 refine ⟨ho, T.grow b1 A.dir A.kind (fun e => by omega) hat (fun z => ent_cnt he0) (fun z => ent_mem he0) (kids_none h0) (.inr rfl) (by rw [hnm]; rfl) (fun _ => hnm) (fun e => ?_), ?_, ?_⟩
 ·obtain ⟨r, hr1, _⟩ := T.root
  have := rows_at hp hr1
  omega
 ·have hn : (addF f dir s (addN f n)).next = f.next + 1 := by
   rw [hg, put_next2]
   ·rw [s3]
   ·rw [s3]; rfl
  omega
 ·rw [hg]
  have w1 := w_set (l := entL d.l s f.next) hr A.dir
  have w2 := w_put (n := withL (addN f n) []) (rows_rise s1)
  have := ent_len (l := d.l) (s := s) (n := f.next)
  have e2 : wK (withL (addN f n) []) = 1 := rfl
  omega
theorem kept_give {f : Fsy} {dir : Int} {s : Txt} {i : Int} (okf : OkF f) (T : TreeP f) (hs : s.length ≤ 1000000) (he : giveErr f dir s i = 0) : Kept f (giveF f dir s i) := by
 have hp := T.rows
 have hr := rows_rise hp
 obtain ⟨d, n, G⟩ := gives_of he
 obtain ⟨n1, n2, n3⟩ := rows_at hp G.node
 have okn := okf.2.2 n (at_mem G.node)
 have hi1 : 1 ≤ i := by have := n1.1; omega
 have hi2 : I64 i := n3 ▸ okn.1
 have he0 := entE_cases (n := i) G.check hi1 G.away G.fewd
 obtain ⟨e1, e2, e3, e4, e5⟩ := enter_all okf hp G.dir G.kind G.check hs hi1 hi2 G.away G.fewd
 have hne : ¬ i = dir := fun e => by
  have h := G.node
  rw [e, G.dir] at h
  obtain rfl := Option.some.inj h
  exact G.file G.kind
 have hni : atF (enterF f dir s i) i = some n := by rw [e5, if_neg hne]; exact G.node
 have hN : nodP (giveN n) := ⟨n1.1, by have := n1.2.1; show 0 ≤ n.links + 1; omega, by have := G.links; show n.links + 1 ≤ 64; omega, n1.2.2.2⟩
 obtain ⟨p1, p2, p3, p4⟩ := put_there (n := giveN n) e2 hni n3 hN
 have hg : giveF f dir s i = putF (enterF f dir s i) (giveN n) := by
  unfold giveF
  rw [if_pos he, (at_BN G.node).2]
  rfl
 have h256 : (enterF f dir s i).l.length ≤ 256 := e2.1
 obtain ⟨hf, hf2⟩ := okf.1
 rw [hg]
 have hl1 := n1.2.1
 have hl2 := G.links
 refine ⟨put_ok e1 ⟨okn.1, okn.2.1, ⟨by show _ ≤ n.links + 1; omega, by show n.links + 1 ≤ _; omega⟩, okn.2.2.2⟩ (by show n.ino < _; omega) (by omega),
  T.grow (X := giveN n) p1 G.dir G.kind hne (fun j => by rw [p4, e5]) (fun z => ent_cnt he0) (fun z => ent_mem he0) (kids_nodir G.node (.inl G.file)) (.inl G.file) (by have := T.cnt i n G.node; show n.links + 1 = _; omega) (fun h => absurd h G.file) (fun e => ?_), by rw [p3, e4]; omega, ?_⟩
 ·obtain ⟨r, r1, r2, _⟩ := T.root
  have h := G.node
  rw [e, r1] at h
  obtain rfl := Option.some.inj h
  exact G.file r2
 ·have w2 := w_put (n := giveN n) (rows_rise e2)
  rw [show (giveN n).ino = i from n3, hni] at w2
  have e6 : KO wK (some n) = wK n := rfl
  have e7 : wK (giveN n) = wK n := rfl
  have w1 := w_set (l := entL d.l s i) hr G.dir
  rw [← enter_set G.dir] at w1
  have := ent_len (l := d.l) (s := s) (n := i)
  omega
theorem kept_away {f : Fsy} {dir : Int} {s : Txt} {d n : Nod} {j : Int} (okf : OkF f) (T : TreeP f) (hd : atF f dir = some d) (hk : d.kind = 2) (hg : getE (lI d.l) s = some j) (hn : atF f j = some n) (hf : fullB n = false) :
  Kept f (awayF f dir s n) ∧ ¬ j = dir ∧ (∀ x z, z ∈ kidsF (awayF f dir s n) x → z ∈ kidsF f x) ∧ wF (awayF f dir s n) ≤ wF f := by
 have hp := T.rows
 have hr := rows_rise hp
 have hrow := (dir_row (rows_at hp hd).1 hk).2
 have hs := row_srt hrow
 have hnj := at_ino hn
 have hne : ¬ j = dir := fun e => by
  rw [e, hd] at hn
  obtain rfl := Option.some.inj hn
  rw [full_no hf hk] at hg
  cases hg
 have h0 : kidsF f j = [] := kids_nodir hn (by
  by_cases h2 : n.kind = 2
  ·exact .inr (full_no hf h2)
  ·exact .inl h2)
 have hkid := get_kid hd hk hg
 obtain ⟨w1, w2, w3, w4, w5⟩ := away_all (s := s) okf hp hd hk (n := n) (.inl (by rw [hnj]; exact hn))
 rw [hnj] at w5
 have T2 : TreeP (awayF f dir s n) := T.shrink w2 hd hk hne hn w5 (fun z => del_cnt hs hg) (fun z => del_map) (fun z => del_mem hs hg) h0 (T.kid dir j hkid).2
 have hw : wF (awayF f dir s n) ≤ wF f := by
  obtain ⟨l1, l2, l3, l4, l5⟩ := leave_all (s := s) okf hp hd hk
  have wl := w_set (l := delL d.l s) hr hd
  rw [← leave_set hd] at wl
  have := del_len (l := d.l) (s := s)
  unfold awayF
  split
  ·have := w_out (i := n.ino) (rows_rise l2) (rows_rise (out_rows l2))
   omega
  ·have wp := w_put (n := awayN n) (rows_rise l2)
   rw [show (awayN n).ino = j from hnj, l5, if_neg hne, hn] at wp
   have e6 : KO wK (some n) = wK n := rfl
   have e7 : wK (awayN n) = wK n := rfl
   omega
 refine ⟨⟨w1, T2, by rw [w4]; omega, by omega⟩, hne, fun x z hz => ?_, hw⟩
 have ad : atF (awayF f dir s n) dir = some (withL d (delL d.l s)) := by rw [w5, if_neg (fun e => hne e.symm), if_pos rfl]
 by_cases hx : x = dir
 ·subst hx
  rw [kids_at2 ad hk] at hz; rw [kids_at2 hd hk]; exact del_map hz
 ·by_cases hx2 : x = j
  ·subst hx2
   have h2 := w5 x
   rw [if_pos rfl] at h2
   split at h2
   ·rw [kids_none h2] at hz; cases hz
   ·rw [kids_nodir h2 (by
     by_cases hk2 : n.kind = 2
     ·exact .inr (full_no hf hk2)
     ·exact .inl hk2)] at hz
    cases hz
  ·rw [kids_eq (f := f) (by rw [w5, if_neg hx2, if_neg hx])] at hz; exact hz
theorem kept_take {f : Fsy} {dir : Int} {s : Txt} (okf : OkF f) (T : TreeP f) (he : takeErr f dir s = 0) : Kept f (takeF f dir s) := by
 have h := he
 unfold takeErr at h
 rw [first2] at h
 split at h
 ·rename_i h1
  rw [when0 (by decide)] at h
  obtain ⟨d, j, n, a1, a2, a3, a4, a5⟩ := (look_iff T.rows).1 h1
  have hl := (look_at a1 a2 a3 a4 a5).2
  rw [hl] at h
  unfold takeF
  rw [if_pos he, hl]
  exact (kept_away okf T a1 a2 a4 a5 h).1
 ·exact absurd h (by assumption)
theorem within_no {f : Fsy} {b j : Int} {n : Nod} (hp : rowsP f) (hn : atF f j = some n) (h : withinB f b n = false) {e : Nod} (hb : atF f b = some e) (hk : e.kind = 2) : ¬ b = j ∧ ¬ Reach f j b := by
 have hnj := at_ino hn
 by_cases h2 : n.kind = 2
 ·unfold withinB at h
  rw [h2, hnj] at h
  simp only [beq_self_eq_true, Bool.true_and, Bool.or_eq_false_iff] at h
  refine ⟨fun e => ?_, fun hr => ?_⟩
  ·rw [e] at h; simp at h
  ·rw [reach_iff.2 hr] at h; exact absurd h.2 (by decide)
 ·refine ⟨fun e => ?_, fun hr => ?_⟩
  ·rw [e, hn] at hb
   obtain rfl := Option.some.inj hb
   exact h2 hk
  ·obtain ⟨y, hy⟩ := reach_first hr
   rw [kids_nodir hn (.inl h2)] at hy
   cases hy
theorem kept_hop {g : Fsy} {a : Int} {s : Txt} {b : Int} {t : Txt} {d e : Nod} {j : Int} {n : Nod} (G : Goes g a s b t d e j n) (T : TreeP g) (ht : t.length ≤ 1000000) (hbj : ¬ b = j) (hjb : ¬ Reach g j b) : Kept g (enterF (leaveF g a s) b t j) := by
 have Z := G.go ht
 have hrow := (dir_row (rows_at G.rows G.dir).1 G.kind).2
 have hs := row_srt hrow
 refine ⟨Z.ok, T.hop Z.rows0 Z.rows G.dir G.kind Z.mid Z.kind G.node Z.at0 Z.at1 (fun z => del_cnt hs G.ent) (fun z => ent_cnt Z.ment) (fun z => del_map) (fun z => del_mem hs G.ent) (fun z => ent_mem Z.ment) (get_kid G.dir G.kind G.ent) hbj hjb, by rw [Z.next]; omega, ?_⟩
 have w1 := w_set (l := delL d.l s) (rows_rise G.rows) G.dir
 rw [← leave_set G.dir] at w1
 have w2 := w_set (l := entL G.mid.l t j) (rows_rise Z.rows0) Z.mid
 rw [← enter_set Z.mid] at w2
 have := ent_len (l := G.mid.l) (s := t) (n := j)
 have := del_len (l := d.l) (s := s)
 omega
theorem kept_mov {f : Fsy} {dir : Int} {s : Txt} {to : Int} {t : Txt} (okf : OkF f) (T : TreeP f) (ht0 : t.length ≤ 1000000) (h : movErr f dir s to t = 0) : Kept f (movF f dir s to t) := by
 have hp := T.rows
 have h1 : mov1 f dir s to t = 0 := Classical.byContradiction fun hn => by
  unfold movErr at h
  rw [if_neg hn] at h
  exact hn h
 have h2 : mov2 f dir s to t = 0 := by
  unfold movErr at h
  rwa [if_pos h1] at h
 obtain ⟨d, dt, n, j, A⟩ := mov_of hp h1
 obtain ⟨e1, e2, e3⟩ := A.mB
 have hnj := A.nino
 have hst := row_srt (dir_row (rows_at hp A.to).1 A.kindt).2
 have hrowt := (dir_row (rows_at hp A.to).1 A.kindt).2
 obtain ⟨hbj, hjb⟩ := within_no hp A.node A.apart A.to A.kindt
 cases hb : isB dt.l t with
 | false =>
  have hg : getE (lI dt.l) t = .none := by
   rw [isB_get] at hb
   cases hg : getE (lI dt.l) t with
   | none => rfl
   | some i => rw [hg] at hb; cases hb
  have hm : movF f dir s to t = enterF (leaveF f dir s) to t j := by
   unfold movF
   rw [if_pos h1, if_neg (fun h => by rw [e1, hb] at h; cases h.1), if_pos h2, A.look]
   unfold mov0
   rw [if_neg (by rw [e1, hb]; decide), hnj]
  have hroom : ¬ to = dir → dt.l.length < 256 := fun hne => by
   unfold mov2 at h2
   rw [if_pos (by rw [e1, hb]), when0 (by decide), e3] at h2
   have : (to != dir) = true := by simpa using hne
   rw [this] at h2
   simp only [Bool.true_and, decide_eq_false_iff_not] at h2
   omega
  have G : Goes f dir s to t d dt j n := ⟨okf, hp, A.dir, A.kind, A.chk, A.ent, A.to, A.kindt, A.chkt, hg, A.node, hroom⟩
  rw [hm]
  exact kept_hop G T ht0 hbj hjb
 | true =>
  obtain ⟨i2, hg⟩ : ∃ i, getE (lI dt.l) t = some i := by
   rw [isB_get] at hb
   cases hg : getE (lI dt.l) t with
   | none => rw [hg] at hb; cases hb
   | some i => exact ⟨i, rfl⟩
  obtain ⟨⟨m, hm⟩, _⟩ := T.kid to i2 (get_kid A.to A.kindt hg)
  have hmi := at_ino hm
  have hI : getI dt.l t = i2 := by rw [getI_get, hg]; rfl
  have hfm : findN f (getI dt.l t) = m := by rw [hI]; exact (at_BN hm).2
  by_cases hij : i2 = j
  ·have : movF f dir s to t = f := by
    unfold movF
    rw [if_pos h1, if_pos ⟨by rw [e1, hb], by rw [e2, hI, A.look, hnj]; exact hij⟩]
   rw [this]
   exact Kept.self okf T
  ·have ho : overE n m = 0 := by
    unfold mov2 at h2
    rw [if_neg (by rw [e1, hb]; decide), if_neg (by rw [e2, hI, A.look, hnj]; exact hij), A.look, e2, hfm] at h2
    exact h2
   obtain ⟨hx1, hx2, hx3⟩ := mov_other hp A hb (by rw [hfm]; exact ho)
   rw [hfm] at hx1 hx2 hx3
   obtain ⟨w1, w2, w3, w4, w5⟩ := away_all (s := t) okf hp A.to A.kindt hx1
   obtain ⟨K, k2, k3, k4⟩ := kept_away okf T A.to A.kindt hg hm (over_full ho).1
   have hmv : movF f dir s to t = enterF (leaveF (awayF f to t m) dir s) to t j := by
    unfold movF
    rw [if_pos h1, if_neg (fun h => hij (by have := h.2; rw [e2, hI, A.look, hnj] at this; exact this)), if_pos h2, A.look]
    unfold mov0
    rw [if_pos (by rw [e1, hb]), hnj, e2, hfm]
   have hto : atF (awayF f to t m) to = some (withL dt (delL dt.l t)) := by rw [w5, if_neg (fun e => hx3 e.symm), if_pos rfl]
   have hdir : ∃ d1, atF (awayF f to t m) dir = some d1 ∧ d1.kind = 2 ∧ getE (lI d1.l) s = some j := by
    rw [w5, if_neg (fun e => hx2 e.symm)]
    split
    ·rename_i hdt
     have hd : d = dt := by
      have h3 := A.dir
      rw [hdt, A.to] at h3
      exact (Option.some.inj h3).symm
     refine ⟨_, rfl, A.kindt, ?_⟩
     show getE (lI (delL dt.l t)) s = _
     have hne : ¬ s = t := fun e => by
      have h4 := A.ent
      rw [hd, e, hg] at h4
      exact hij (Option.some.inj h4)
     rw [get_del hst, if_neg hne, ← hd]
     exact A.ent
    ·exact ⟨d, A.dir, A.kind, A.ent⟩
   obtain ⟨d1, g1, g2, g3⟩ := hdir
   have hn1 : atF (awayF f to t m) j = some n := by
    rw [w5, if_neg (fun e => hij (by rw [← hmi]; exact e.symm)), if_neg (fun e => hbj e.symm)]
    exact A.node
   have G : Goes (awayF f to t m) dir s to t d1 (withL dt (delL dt.l t)) j n := ⟨w1, w2, g1, g2, A.chk, g3, hto, A.kindt, A.chkt, by
    show getE (lI (delL dt.l t)) t = _
    rw [get_del hst, if_pos rfl], hn1, fun _ => by
    show (delL dt.l t).length < 256
    have := del_len1 hst hg
    have := hrowt.1
    omega⟩
   have Z := kept_hop G K.tree ht0 hbj (fun h => hjb (reach_mono k3 h))
   rw [hmv]
   refine ⟨Z.ok, Z.tree, ?_, ?_⟩
   ·have := Z.next
    have e : (enterF (leaveF (awayF f to t m) dir s) to t j).next = f.next := by rw [(G.go ht0).next, w4]
    rw [e]; omega
   ·have := Z.few
    omega
theorem kept_put {f : Fsy} {i : Int} {n m : Nod} (okf : OkF f) (T : TreeP f) (hn : atF f i = some n) (hi : m.ino = i) (hk : m.kind = n.kind) (hl : m.links = n.links) (he : m.l = n.l) (hm : nodP m) (okm : OkN m) : Kept f (putF f m) := by
 have hp := T.rows
 obtain ⟨p1, p2, p3, p4⟩ := put_there hp hn hi hm
 obtain ⟨n1, n2, n3⟩ := rows_at hp hn
 obtain ⟨hf, hf2⟩ := okf.1
 have h256 : f.l.length ≤ 256 := hp.1
 refine ⟨put_ok okf okm (by omega) (by omega), T.put hn hi hk hl he hm, by rw [p3]; omega, ?_⟩
 have w2 := w_put (n := m) (rows_rise hp)
 rw [hi, hn] at w2
 have e6 : KO wK (some n) = 1 + n.l.length := rfl
 have e7 : wK m = 1 + m.l.length := rfl
 rw [he] at e7
 omega
end Go.Proofs.YtkhnialfkndiiaaGreat

namespace Go.Proofs.YtkhnialfkndiiaaGreat
open Go Go.RowKit Copyhold
def midF (f : Fsy) : Prop := f.l.length + (f.l.map wN).sum ≤ 260
theorem Dst.leM {f : Fsy} {U : List Int} (h : Dst f U) (hf : midF f) : U.length ≤ 260 := by
 have := nodup_le h.1 h.2
 rw [inos_len] at this
 unfold midF at hf
 omega
theorem UH.stepM {f : Fsy} {i : Int} {U : List Int} {p j : Nat} {z : Int} (hf : midF f) (h : UH f i U p) (hz : U[p]? = some z) (hj : (findN f z).l.length ≤ j) : UH f i (addE U ((findN f z).l.take j)) (p + 1) := by
 obtain ⟨h1, h2, h3⟩ := h
 have hp := lt_of_some hz
 have hl := h1.leM hf
 refine ⟨ent_find_dst h1 z j, by have := addE_len ((findN f z).l.take j) U; omega, ?_⟩
 rw [take_all hj, ← h3, show 300 - p = (300 - (p + 1)) + 1 from by omega]
 simp only [goU, hz]
theorem under_leM {f : Fsy} (hf : midF f) (i : Int) : (underF f i).length ≤ 260 :=
 (goU_dst 300 0 (addE_dst (Dst.nil f) fun e he => find_ent he)).leM hf
theorem cnts_fewM {f : Fsy} (hf : midF f) (i : Int) (k : Nat) : ((f.l.take k).map (cntE i)).sum ≤ 260 := by
 have := cnts_le i f.l
 have := sum_take_le (cntE i) f.l k
 unfold midF at hf
 omega
theorem names_specM (f : Fsy) (i : Int) (okf : OkF f) (hf : midF f) : FSpec Tryz.prog 64 [.agg (fsyA f), aI i] (aI (namesF f i : Int)) := by
 have hfl := okf.2.1
 exact spec_vc (F := Tryz.f64) 400 (
 .new fun b1 => .r 1 <| .r 1 <| .r 1 <| let L1 : Lp (Nat) := ⟨fun a1 => ⟨[(1, aI i), (2, .ptr 2 b1 0), (6, aI (a1 : Int)), (5, aI (((f.l.take a1).map (cntE i)).sum : Int))], [(2, .box b1 24 (fsyA f))]⟩, fun a1 => f.l.length - a1, fun a1 => a1 ≤ f.l.length⟩
 .loop L1 0 (show 0 ≤ f.l.length from Nat.zero_le _) ⟨[(1, aI i), (2, .ptr 2 b1 0), (6, aI 0), (5, aI 0)], [(2, .box b1 24 (fsyA f))]⟩ ⟨sR, sR, Sub.of_eq (congrArg aI (by first | omega | rfl)), Sub.of_eq (congrArg aI (by first | omega | rfl)), trivial⟩ ⟨⟨_, rfl, SubB.refl _⟩, trivial⟩ fun a1 ha1 =>
 (fun (k : Nat) (hH1 : k ≤ f.l.length) => have hs1 := cnts_fewM hf i k; .run 4 [b1 = b1] rt1 <|
 .val 11 (show (aI ((f.l.map nodA).length : Int) : AV) = aI (f.l.length : Int) from by rw [List.length_map]) <| .r 1 <| .br 12 (decide ((k : Int) < (f.l.length : Int))) (fun q1 => have p1 := decT q1; .r 1 <| .ex (some_of (l := f.l) (k := k) (by omega)) fun x1 hx1 =>
 have okx1 := okf.2.2 x1 (List.mem_of_getElem? hx1); have blx1 := okx1.2.2.2.2.1; let L2 : Lp (Nat) := ⟨fun a2 => ⟨[(1, aI i), (2, .ptr 2 b1 0), (6, aI (k : Int)), (7, aI (a2 : Int)), (5, aI ((((f.l.take k).map (cntE i)).sum + cntK i x1.l a2 : Nat) : Int))], [(2, .box b1 24 (fsyA f))]⟩, fun a2 => x1.l.length - a2, fun a2 => a2 ≤ x1.l.length⟩
 .loop L2 0 (show 0 ≤ x1.l.length from Nat.zero_le _) ⟨[(1, aI i), (2, .ptr 2 b1 0), (6, aI (k : Int)), (7, aI 0), (5, aI (((f.l.take k).map (cntE i)).sum : Int))], [(2, .box b1 24 (fsyA f))]⟩ ⟨sR, sR, sR, Sub.of_eq (congrArg aI (by first | omega | rfl)), Sub.of_eq (congrArg aI (by simp [cntK])), trivial⟩ ⟨⟨_, rfl, SubB.refl _⟩, trivial⟩ fun a2 ha2 =>
 (fun (j : Nat) (hH2 : j ≤ x1.l.length) => have hs2 := cntK_le i x1.l j; .run 4 [b1 = b1] rt1 <|
 .idx k (m := (k : Int)) (xs := f.l.map nodA) (e := nodA x1) rfl (map_some hx1) <|
 .r 3 <| .val 22 (show (aI ((x1.l.map entA).length : Int) : AV) = aI (x1.l.length : Int) from by rw [List.length_map]) <| .r 1 <| .br 23 (decide ((j : Int) < (x1.l.length : Int))) (fun q2 => have p2 := decT q2; .run 3 [b1 = b1] rt1 <|
 .idx k (m := (k : Int)) (xs := f.l.map nodA) (e := nodA x1) rfl (map_some hx1) <|
 .r 3 <| .idxM x1.l entA j (m := (j : Int)) rfl (by omega) fun x2 hx2 =>
 .r 4 <| .br 37 (x2.ino == i) (fun q3 => have p3 := beqT q3; .run 3 [rng .i64 (((((f.l.take k).map (cntE i)).sum + cntK i x1.l j : Nat) : Int) + 1)] ⟨rng64 (by omega) (by omega), trivial⟩ <|
 .run 3 [rng .i64 ((j : Int) + 1)] ⟨rng64 (by omega) (by omega), trivial⟩ <|
 .back L2 j (j + 1) (show (j + 1) ≤ x1.l.length from (by show _ ≤ _; omega)) (show x1.l.length - (j + 1) < x1.l.length - j from (by omega)) ⟨[(1, aI i), (2, .ptr 2 b1 0), (6, aI (k : Int)), (7, aI ((j : Int) + 1)), (5, aI (((((f.l.take k).map (cntE i)).sum + cntK i x1.l j : Nat) : Int) + 1))], [(2, .box b1 24 (fsyA f))]⟩ ⟨sR, sR, sR, Sub.of_eq (congrArg aI (by first | omega | rfl)), Sub.of_eq (congrArg aI (by rw [cntK_yes hx2 q3] <;> omega)), trivial⟩ ⟨⟨_, rfl, SubB.refl _⟩, trivial⟩)
 <| fun q3 => have p3 := beqF q3; .run 3 [rng .i64 ((j : Int) + 1)] ⟨rng64 (by omega) (by omega), trivial⟩ <|
 .back L2 j (j + 1) (show (j + 1) ≤ x1.l.length from (by show _ ≤ _; omega)) (show x1.l.length - (j + 1) < x1.l.length - j from (by omega)) ⟨[(1, aI i), (2, .ptr 2 b1 0), (6, aI (k : Int)), (7, aI ((j : Int) + 1)), (5, aI ((((f.l.take k).map (cntE i)).sum + cntK i x1.l j : Nat) : Int))], [(2, .box b1 24 (fsyA f))]⟩ ⟨sR, sR, sR, Sub.of_eq (congrArg aI (by first | omega | rfl)), Sub.of_eq (congrArg aI (by rw [cntK_no hx2 q3] <;> omega)), trivial⟩ ⟨⟨_, rfl, SubB.refl _⟩, trivial⟩)
 <| fun q2 => have p2 := decF q2; .run 3 [rng .i64 ((k : Int) + 1)] ⟨rng64 (by omega) (by omega), trivial⟩ <|
 .back L1 k (k + 1) (show (k + 1) ≤ f.l.length from (by show _ ≤ _; omega)) (show f.l.length - (k + 1) < f.l.length - k from (by omega)) ⟨[(1, aI i), (2, .ptr 2 b1 0), (6, aI ((k : Int) + 1)), (5, aI ((((f.l.take k).map (cntE i)).sum + cntK i x1.l j : Nat) : Int))], [(2, .box b1 24 (fsyA f))]⟩ ⟨sR, sR, Sub.of_eq (congrArg aI (by first | omega | rfl)), Sub.of_eq (congrArg aI (by rw [sum_take (cntE i) hx1, ← cntK_all (i := i) (n := x1) (j := j) (by omega)] <;> omega)), trivial⟩ ⟨⟨_, rfl, SubB.refl _⟩, trivial⟩) a2 ha2)
 <| fun q1 => have p1 := decF q1; .r 2 <| .fin (x := aI (((f.l.take k).map (cntE i)).sum : Int)) (r := aI (namesF f i : Int)) [] trivial (by exact Sub.of_eq (congrArg aI (by rw [take_all (by omega)]; rfl)))) a1 ha1) Tryz.func64 rfl (by kernel_rfl) (by kernel_rfl)
theorem under_specM (f : Fsy) (i : Int) (okf : OkF f) (hf : midF f) : FSpec Tryz.prog 63 [.agg (fsyA f), aI i] (.sl 1 false ((underF f i).map intA)) := by
 have hfl := okf.2.1
 have hfb := fun i => (findN_ok okf i).2.2.2.2.1
 exact spec_vc (F := Tryz.f63) 400 (
 .new fun b1 => .r 1 <| .r 1 <| .rowNil 5 5 3 1 <| .run 2 [b1 = b1] rt1 <|
 .call (rfind_spec f i (by omega)) <|
 .r 3 <| .new fun b2 => .run 2 [b2 = b2] rt1 <|
 .r 1 <| let L1 : Lp (Nat × Value) := ⟨fun a1 => ⟨[(2, .ptr 2 b1 0), (6, .ptr 6 b2 0), (8, aI (a1.1 : Int)), (5, .rw 5 a1.2 ((addE [] ((findN f i).l.take a1.1)).length))], [(2, .box b1 24 (fsyA f)), (5, .row a1.2 3 1 ((addE [] ((findN f i).l.take a1.1)).map intA)), (6, .box b2 59 [aI ((findN f i).ino), aI ((findN f i).kind), aI ((findN f i).links), aS ((findN f i).text), .sl 2 false ((findN f i).l.map entA)])]⟩, fun a1 => (findN f i).l.length - a1.1, fun a1 => a1.1 ≤ (findN f i).l.length⟩
 .loop L1 (0, (.slice none 0 0)) (show 0 ≤ (findN f i).l.length from Nat.zero_le _) ⟨[(2, .ptr 2 b1 0), (6, .ptr 6 b2 0), (8, aI 0), (5, .rw 5 (.slice none 0 0) 0)], [(2, .box b1 24 (fsyA f)), (5, .row (.slice none 0 0) 3 1 ([])), (6, .box b2 59 [aI ((findN f i).ino), aI ((findN f i).kind), aI ((findN f i).links), aS ((findN f i).text), .sl 2 false ((findN f i).l.map entA)])]⟩ ⟨sR, sR, Sub.of_eq (congrArg aI (by first | omega | rfl)), Sub.of_eq (congrArg (AV.rw 5 (.slice none 0 0)) (by simp [addE])), trivial⟩ ⟨⟨_, rfl, SubB.refl _⟩, ⟨_, rfl, SubB.of_eq (by simp [addE])⟩, ⟨_, rfl, SubB.refl _⟩, trivial⟩ fun a1 ha1 =>
 (fun (j : Nat) (V : Value) (hH1 : j ≤ (findN f i).l.length) => have hd1 := (ent_find_dst (Dst.nil f) i j).leM hf; have hb1 := hfb i; .run 4 [b2 = b2] rt1 <|
 .val 24 (show (aI (((findN f i).l.map entA).length : Int) : AV) = aI (((findN f i).l).length : Int) from by rw [List.length_map]) <| .r 1 <| .br 25 (decide ((j : Int) < (((findN f i).l).length : Int))) (fun q1 => have p1 := decT q1; .run 4 [b2 = b2] rt1 <|
 .idxM ((findN f i).l) entA j (m := (j : Int)) rfl (by omega) fun x1 hx1 =>
 .r 2 <| .op (cbR Tryz.prog 5) ((65, [.rw 5 V ((addE [] ((findN f i).l.take j)).length), aI x1.ino], some 35), (V, 3, 1, (addE [] ((findN f i).l.take j)).map intA)) (fun (_ : Unit) σ => σ.put (some 35) (aB (hasB (addE [] ((findN f i).l.take j)) x1.ino))) (rule_cb (args' := [.sl 1 false ((addE [] ((findN f i).l.take j)).map intA), aI x1.ino]) ⟨Fz.row _ _ _ _ _ _ (by first | rfl | (simp; done) | (simp; omega)), Fz.refl _ _, trivial⟩ (has_spec (addE [] ((findN f i).l.take j)) x1.ino (by omega)) rfl) fun _ =>
 .r 1 <| .r 2 <| .br 37 (!(hasB (addE [] ((findN f i).l.take j)) x1.ino)) (fun q2 => have q2 := notT q2; have p2 := booF q2; .run 4 [b2 = b2] rt1 <|
 .idx j (m := (j : Int)) (xs := (findN f i).l.map entA) (e := entA x1) rfl (map_some hx1) <|
 .r 3 <| .app 8 V ((addE [] ((findN f i).l.take j)).map intA) ([[aI x1.ino]]) (by simp only [List.length_map, List.length_cons, List.length_nil]; omega) (by simp only [List.length_map, List.length_cons, List.length_nil]; omega) fun V1 =>
 .r 1 <| .run 3 [rng .i64 ((j : Int) + 1)] ⟨rng64 (by omega) (by omega), trivial⟩ <|
 .back L1 (j, V) ((j + 1), V1) (show (j + 1) ≤ (findN f i).l.length from (by show _ ≤ _; omega)) (show (findN f i).l.length - (j + 1) < (findN f i).l.length - j from (by omega)) ⟨[(2, .ptr 2 b1 0), (6, .ptr 6 b2 0), (8, aI ((j : Int) + 1)), (5, .rw 5 V1 (((addE [] ((findN f i).l.take j)).map intA).length + ([[aI x1.ino]] : List (List AV)).length))], [(2, .box b1 24 (fsyA f)), (5, .row V1 3 1 (((addE [] ((findN f i).l.take j)).map intA) ++ ([[aI x1.ino]]))), (6, .box b2 59 [aI ((findN f i).ino), aI ((findN f i).kind), aI ((findN f i).links), aS ((findN f i).text), .sl 2 false ((findN f i).l.map entA)])]⟩ ⟨sR, sR, Sub.of_eq (congrArg aI (by first | omega | rfl)), Sub.of_eq (congrArg (AV.rw 5 V1) (by rw [addE_no hx1 q2]; simp)), trivial⟩ ⟨⟨_, rfl, SubB.refl _⟩, ⟨_, rfl, SubB.of_eq (by rw [addE_no hx1 q2]; simp [intA])⟩, ⟨_, rfl, SubB.refl _⟩, trivial⟩)
 <| fun q2 => have q2 := notF q2; have p2 := booT q2; .run 3 [rng .i64 ((j : Int) + 1)] ⟨rng64 (by omega) (by omega), trivial⟩ <|
 .back L1 (j, V) ((j + 1), V) (show (j + 1) ≤ (findN f i).l.length from (by show _ ≤ _; omega)) (show (findN f i).l.length - (j + 1) < (findN f i).l.length - j from (by omega)) ⟨[(2, .ptr 2 b1 0), (6, .ptr 6 b2 0), (8, aI ((j : Int) + 1)), (5, .rw 5 V ((addE [] ((findN f i).l.take j)).length))], [(2, .box b1 24 (fsyA f)), (5, .row V 3 1 ((addE [] ((findN f i).l.take j)).map intA)), (6, .box b2 59 [aI ((findN f i).ino), aI ((findN f i).kind), aI ((findN f i).links), aS ((findN f i).text), .sl 2 false ((findN f i).l.map entA)])]⟩ ⟨sR, sR, Sub.of_eq (congrArg aI (by first | omega | rfl)), Sub.of_eq (congrArg (AV.rw 5 V) (by rw [addE_yes hx1 q2])), trivial⟩ ⟨⟨_, rfl, SubB.refl _⟩, ⟨_, rfl, SubB.of_eq (by rw [addE_yes hx1 q2])⟩, ⟨_, rfl, SubB.refl _⟩, trivial⟩)
 <| fun q1 => have p1 := decF q1; .r 1 <| let L2 : Lp (Nat × List Int × Value) := ⟨fun a2 => ⟨[(2, .ptr 2 b1 0), (10, aI (a2.1 : Int)), (5, .rw 5 a2.2.2 a2.2.1.length)], [(2, .box b1 24 (fsyA f)), (5, .row a2.2.2 3 1 (a2.2.1.map intA))]⟩, fun a2 => 300 - a2.1, fun a2 => UH f i a2.2.1 a2.1⟩
 .loop L2 (0, (addE [] ((findN f i).l.take j)), V) (show UH f i (addE [] ((findN f i).l.take j)) 0 from (UH.zero f i (by omega))) ⟨[(2, .ptr 2 b1 0), (10, aI 0), (5, .rw 5 V ((addE [] ((findN f i).l.take j)).length))], [(2, .box b1 24 (fsyA f)), (5, .row V 3 1 ((addE [] ((findN f i).l.take j)).map intA))]⟩ ⟨sR, Sub.of_eq (congrArg aI (by first | omega | rfl)), sR, trivial⟩ ⟨⟨_, rfl, SubB.refl _⟩, ⟨_, rfl, SubB.refl _⟩, trivial⟩ fun a2 ha2 =>
 (fun (p : Nat) (U : List Int) (V : Value) (hH2 : UH f i U p) => have hu2 := hH2.1.leM hf; have hp2 := hH2.2.1; .r 4 <| .br 50 (decide ((p : Int) < (U.length : Int))) (fun q3 => have p3 := decT q3; .st (rowR 5) (V, 3, 1, U.map intA) (fun _ σ => σ) (rule_shape 5 (by first | omega | (rw [List.length_map]; omega) | (simp <;> omega))) fun a3r =>
 .pick [0, 1, 2, 3, 4] <| .run 3 [b1 = b1] rt1 <|
 .op (ixR Tryz.prog) (5, V, U.length, 1, (p : Int), some 57) (fun (_ : Unit) σ => σ.put (some 57) (.ep 5 V 1 p 0)) (rule_ixR p a3r.2.1 (by omega) (by first | omega | (rw [List.length_map]; omega) | (simp <;> omega))) fun _ =>
 .ex (some_of (l := U) (k := p) (by first | omega | (rw [List.length_map]; omega) | (simp <;> omega))) fun x2 hx2 =>
 .op (ldR Tryz.prog) (V, 1, p, 0, V, 1, U.map intA, 3, some 58) (fun (_ : Unit) σ => σ.put (some 58) (aI x2)) (rule_ldR (intA x2) (map_some hx2) (by kernel_rfl)) fun _ =>
 .fork <| .alt (.call (rfind_spec f x2 (by omega)) <|
 .pick [6, 7, 8, 9, 10, 11] <| .r 3 <| .new fun b4 => .run 2 [b4 = b4] rt1 <|
 .r 1 <| let L3 : Lp (Nat × Value) := ⟨fun a3 => ⟨[(2, .ptr 2 b1 0), (10, aI (p : Int)), (11, .ptr 11 b4 0), (13, aI (a3.1 : Int)), (5, .rw 5 a3.2 ((addE U ((findN f x2).l.take a3.1)).length))], [(2, .box b1 24 (fsyA f)), (5, .row a3.2 3 1 ((addE U ((findN f x2).l.take a3.1)).map intA)), (11, .box b4 59 [aI ((findN f x2).ino), aI ((findN f x2).kind), aI ((findN f x2).links), aS ((findN f x2).text), .sl 2 false ((findN f x2).l.map entA)])]⟩, fun a3 => (findN f x2).l.length - a3.1, fun a3 => a3.1 ≤ (findN f x2).l.length⟩
 .loop L3 (0, V) (show 0 ≤ (findN f x2).l.length from Nat.zero_le _) ⟨[(2, .ptr 2 b1 0), (10, aI (p : Int)), (11, .ptr 11 b4 0), (13, aI 0), (5, .rw 5 V U.length)], [(2, .box b1 24 (fsyA f)), (5, .row V 3 1 (U.map intA)), (11, .box b4 59 [aI ((findN f x2).ino), aI ((findN f x2).kind), aI ((findN f x2).links), aS ((findN f x2).text), .sl 2 false ((findN f x2).l.map entA)])]⟩ ⟨sR, sR, sR, Sub.of_eq (congrArg aI (by first | omega | rfl)), Sub.of_eq (congrArg (AV.rw 5 V) (by simp [addE])), trivial⟩ ⟨⟨_, rfl, SubB.refl _⟩, ⟨_, rfl, SubB.of_eq (by simp [addE])⟩, ⟨_, rfl, SubB.refl _⟩, trivial⟩ fun a3 ha3 =>
 (fun (j : Nat) (Y : Value) (hH3 : j ≤ (findN f x2).l.length) => have hd3 := (ent_find_dst hH2.1 x2 j).leM hf; have hb3 := hfb x2; .run 4 [b4 = b4] rt1 <|
 .val 65 (show (aI (((findN f x2).l.map entA).length : Int) : AV) = aI (((findN f x2).l).length : Int) from by rw [List.length_map]) <| .r 1 <| .br 66 (decide ((j : Int) < (((findN f x2).l).length : Int))) (fun q4 => have p4 := decT q4; .run 4 [b4 = b4] rt1 <|
 .idxM ((findN f x2).l) entA j (m := (j : Int)) rfl (by omega) fun x3 hx3 =>
 .r 2 <| .op (cbR Tryz.prog 5) ((65, [.rw 5 Y ((addE U ((findN f x2).l.take j)).length), aI x3.ino], some 76), (Y, 3, 1, (addE U ((findN f x2).l.take j)).map intA)) (fun (_ : Unit) σ => σ.put (some 76) (aB (hasB (addE U ((findN f x2).l.take j)) x3.ino))) (rule_cb (args' := [.sl 1 false ((addE U ((findN f x2).l.take j)).map intA), aI x3.ino]) ⟨Fz.row _ _ _ _ _ _ (by first | rfl | (simp; done) | (simp; omega)), Fz.refl _ _, trivial⟩ (has_spec (addE U ((findN f x2).l.take j)) x3.ino (by omega)) rfl) fun _ =>
 .r 1 <| .r 2 <| .br 78 (!(hasB (addE U ((findN f x2).l.take j)) x3.ino)) (fun q5 => have q5 := notT q5; have p5 := booF q5; .run 4 [b4 = b4] rt1 <|
 .idx j (m := (j : Int)) (xs := (findN f x2).l.map entA) (e := entA x3) rfl (map_some hx3) <|
 .r 3 <| .app 8 Y ((addE U ((findN f x2).l.take j)).map intA) ([[aI x3.ino]]) (by simp only [List.length_map, List.length_cons, List.length_nil]; omega) (by simp only [List.length_map, List.length_cons, List.length_nil]; omega) fun V2 =>
 .r 1 <| .run 3 [rng .i64 ((j : Int) + 1)] ⟨rng64 (by omega) (by omega), trivial⟩ <|
 .back L3 (j, Y) ((j + 1), V2) (show (j + 1) ≤ (findN f x2).l.length from (by show _ ≤ _; omega)) (show (findN f x2).l.length - (j + 1) < (findN f x2).l.length - j from (by omega)) ⟨[(2, .ptr 2 b1 0), (10, aI (p : Int)), (11, .ptr 11 b4 0), (13, aI ((j : Int) + 1)), (5, .rw 5 V2 (((addE U ((findN f x2).l.take j)).map intA).length + ([[aI x3.ino]] : List (List AV)).length))], [(2, .box b1 24 (fsyA f)), (5, .row V2 3 1 (((addE U ((findN f x2).l.take j)).map intA) ++ ([[aI x3.ino]]))), (11, .box b4 59 [aI ((findN f x2).ino), aI ((findN f x2).kind), aI ((findN f x2).links), aS ((findN f x2).text), .sl 2 false ((findN f x2).l.map entA)])]⟩ ⟨sR, sR, sR, Sub.of_eq (congrArg aI (by first | omega | rfl)), Sub.of_eq (congrArg (AV.rw 5 V2) (by rw [addE_no hx3 q5]; simp)), trivial⟩ ⟨⟨_, rfl, SubB.refl _⟩, ⟨_, rfl, SubB.of_eq (by rw [addE_no hx3 q5]; simp [intA])⟩, ⟨_, rfl, SubB.refl _⟩, trivial⟩)
 <| fun q5 => have q5 := notF q5; have p5 := booT q5; .run 3 [rng .i64 ((j : Int) + 1)] ⟨rng64 (by omega) (by omega), trivial⟩ <|
 .back L3 (j, Y) ((j + 1), Y) (show (j + 1) ≤ (findN f x2).l.length from (by show _ ≤ _; omega)) (show (findN f x2).l.length - (j + 1) < (findN f x2).l.length - j from (by omega)) ⟨[(2, .ptr 2 b1 0), (10, aI (p : Int)), (11, .ptr 11 b4 0), (13, aI ((j : Int) + 1)), (5, .rw 5 Y ((addE U ((findN f x2).l.take j)).length))], [(2, .box b1 24 (fsyA f)), (5, .row Y 3 1 ((addE U ((findN f x2).l.take j)).map intA)), (11, .box b4 59 [aI ((findN f x2).ino), aI ((findN f x2).kind), aI ((findN f x2).links), aS ((findN f x2).text), .sl 2 false ((findN f x2).l.map entA)])]⟩ ⟨sR, sR, sR, Sub.of_eq (congrArg aI (by first | omega | rfl)), Sub.of_eq (congrArg (AV.rw 5 Y) (by rw [addE_yes hx3 q5])), trivial⟩ ⟨⟨_, rfl, SubB.refl _⟩, ⟨_, rfl, SubB.of_eq (by rw [addE_yes hx3 q5])⟩, ⟨_, rfl, SubB.refl _⟩, trivial⟩)
 <| fun q4 => have p4 := decF q4; .run 3 [rng .i64 ((p : Int) + 1)] ⟨rng64 (by omega) (by omega), trivial⟩ <|
 .back L2 (p, U, V) ((p + 1), (addE U ((findN f x2).l.take j)), Y) (show UH f i (addE U ((findN f x2).l.take j)) (p + 1) from (UH.stepM hf hH2 hx2 (by omega))) (show 300 - (p + 1) < 300 - p from (by omega)) ⟨[(2, .ptr 2 b1 0), (10, aI ((p : Int) + 1)), (5, .rw 5 Y ((addE U ((findN f x2).l.take j)).length))], [(2, .box b1 24 (fsyA f)), (5, .row Y 3 1 ((addE U ((findN f x2).l.take j)).map intA))]⟩ ⟨sR, Sub.of_eq (congrArg aI (by first | omega | rfl)), sR, trivial⟩ ⟨⟨_, rfl, SubB.refl _⟩, ⟨_, rfl, SubB.refl _⟩, trivial⟩) a3.1 a3.2 ha3)
 <| .new fun b5 => .pick [5, 6, 7, 8, 10, 11] <| .call (rfind_spec f x2 (by omega)) <|
 .run 5 [b5 = b5] rt1 <|
 .r 1 <| let L3 : Lp (Nat × Value) := ⟨fun a3 => ⟨[(2, .ptr 2 b1 0), (10, aI (p : Int)), (11, .ptr 11 b5 0), (13, aI (a3.1 : Int)), (5, .rw 5 a3.2 ((addE U ((findN f x2).l.take a3.1)).length))], [(2, .box b1 24 (fsyA f)), (5, .row a3.2 3 1 ((addE U ((findN f x2).l.take a3.1)).map intA)), (11, .box b5 59 [aI ((findN f x2).ino), aI ((findN f x2).kind), aI ((findN f x2).links), aS ((findN f x2).text), .sl 2 false ((findN f x2).l.map entA)])]⟩, fun a3 => (findN f x2).l.length - a3.1, fun a3 => a3.1 ≤ (findN f x2).l.length⟩
 .loop L3 (0, V) (show 0 ≤ (findN f x2).l.length from Nat.zero_le _) ⟨[(2, .ptr 2 b1 0), (10, aI (p : Int)), (11, .ptr 11 b5 0), (13, aI 0), (5, .rw 5 V U.length)], [(2, .box b1 24 (fsyA f)), (5, .row V 3 1 (U.map intA)), (11, .box b5 59 [aI ((findN f x2).ino), aI ((findN f x2).kind), aI ((findN f x2).links), aS ((findN f x2).text), .sl 2 false ((findN f x2).l.map entA)])]⟩ ⟨sR, sR, sR, Sub.of_eq (congrArg aI (by first | omega | rfl)), Sub.of_eq (congrArg (AV.rw 5 V) (by simp [addE])), trivial⟩ ⟨⟨_, rfl, SubB.refl _⟩, ⟨_, rfl, SubB.of_eq (by simp [addE])⟩, ⟨_, rfl, SubB.refl _⟩, trivial⟩ fun a3 ha3 =>
 (fun (j : Nat) (Y : Value) (hH3 : j ≤ (findN f x2).l.length) => have hd3 := (ent_find_dst hH2.1 x2 j).leM hf; have hb3 := hfb x2; .run 4 [b5 = b5] rt1 <|
 .val 65 (show (aI (((findN f x2).l.map entA).length : Int) : AV) = aI (((findN f x2).l).length : Int) from by rw [List.length_map]) <| .r 1 <| .br 66 (decide ((j : Int) < (((findN f x2).l).length : Int))) (fun q6 => have p6 := decT q6; .run 4 [b5 = b5] rt1 <|
 .idxM ((findN f x2).l) entA j (m := (j : Int)) rfl (by omega) fun x4 hx4 =>
 .r 2 <| .op (cbR Tryz.prog 5) ((65, [.rw 5 Y ((addE U ((findN f x2).l.take j)).length), aI x4.ino], some 76), (Y, 3, 1, (addE U ((findN f x2).l.take j)).map intA)) (fun (_ : Unit) σ => σ.put (some 76) (aB (hasB (addE U ((findN f x2).l.take j)) x4.ino))) (rule_cb (args' := [.sl 1 false ((addE U ((findN f x2).l.take j)).map intA), aI x4.ino]) ⟨Fz.row _ _ _ _ _ _ (by first | rfl | (simp; done) | (simp; omega)), Fz.refl _ _, trivial⟩ (has_spec (addE U ((findN f x2).l.take j)) x4.ino (by omega)) rfl) fun _ =>
 .r 1 <| .r 2 <| .br 78 (!(hasB (addE U ((findN f x2).l.take j)) x4.ino)) (fun q7 => have q7 := notT q7; have p7 := booF q7; .run 4 [b5 = b5] rt1 <|
 .idx j (m := (j : Int)) (xs := (findN f x2).l.map entA) (e := entA x4) rfl (map_some hx4) <|
 .r 3 <| .app 8 Y ((addE U ((findN f x2).l.take j)).map intA) ([[aI x4.ino]]) (by simp only [List.length_map, List.length_cons, List.length_nil]; omega) (by simp only [List.length_map, List.length_cons, List.length_nil]; omega) fun V3 =>
 .r 1 <| .run 3 [rng .i64 ((j : Int) + 1)] ⟨rng64 (by omega) (by omega), trivial⟩ <|
 .back L3 (j, Y) ((j + 1), V3) (show (j + 1) ≤ (findN f x2).l.length from (by show _ ≤ _; omega)) (show (findN f x2).l.length - (j + 1) < (findN f x2).l.length - j from (by omega)) ⟨[(2, .ptr 2 b1 0), (10, aI (p : Int)), (11, .ptr 11 b5 0), (13, aI ((j : Int) + 1)), (5, .rw 5 V3 (((addE U ((findN f x2).l.take j)).map intA).length + ([[aI x4.ino]] : List (List AV)).length))], [(2, .box b1 24 (fsyA f)), (5, .row V3 3 1 (((addE U ((findN f x2).l.take j)).map intA) ++ ([[aI x4.ino]]))), (11, .box b5 59 [aI ((findN f x2).ino), aI ((findN f x2).kind), aI ((findN f x2).links), aS ((findN f x2).text), .sl 2 false ((findN f x2).l.map entA)])]⟩ ⟨sR, sR, sR, Sub.of_eq (congrArg aI (by first | omega | rfl)), Sub.of_eq (congrArg (AV.rw 5 V3) (by rw [addE_no hx4 q7]; simp)), trivial⟩ ⟨⟨_, rfl, SubB.refl _⟩, ⟨_, rfl, SubB.of_eq (by rw [addE_no hx4 q7]; simp [intA])⟩, ⟨_, rfl, SubB.refl _⟩, trivial⟩)
 <| fun q7 => have q7 := notF q7; have p7 := booT q7; .run 3 [rng .i64 ((j : Int) + 1)] ⟨rng64 (by omega) (by omega), trivial⟩ <|
 .back L3 (j, Y) ((j + 1), Y) (show (j + 1) ≤ (findN f x2).l.length from (by show _ ≤ _; omega)) (show (findN f x2).l.length - (j + 1) < (findN f x2).l.length - j from (by omega)) ⟨[(2, .ptr 2 b1 0), (10, aI (p : Int)), (11, .ptr 11 b5 0), (13, aI ((j : Int) + 1)), (5, .rw 5 Y ((addE U ((findN f x2).l.take j)).length))], [(2, .box b1 24 (fsyA f)), (5, .row Y 3 1 ((addE U ((findN f x2).l.take j)).map intA)), (11, .box b5 59 [aI ((findN f x2).ino), aI ((findN f x2).kind), aI ((findN f x2).links), aS ((findN f x2).text), .sl 2 false ((findN f x2).l.map entA)])]⟩ ⟨sR, sR, sR, Sub.of_eq (congrArg aI (by first | omega | rfl)), Sub.of_eq (congrArg (AV.rw 5 Y) (by rw [addE_yes hx4 q7])), trivial⟩ ⟨⟨_, rfl, SubB.refl _⟩, ⟨_, rfl, SubB.of_eq (by rw [addE_yes hx4 q7])⟩, ⟨_, rfl, SubB.refl _⟩, trivial⟩)
 <| fun q6 => have p6 := decF q6; .run 3 [rng .i64 ((p : Int) + 1)] ⟨rng64 (by omega) (by omega), trivial⟩ <|
 .back L2 (p, U, V) ((p + 1), (addE U ((findN f x2).l.take j)), Y) (show UH f i (addE U ((findN f x2).l.take j)) (p + 1) from (UH.stepM hf hH2 hx2 (by omega))) (show 300 - (p + 1) < 300 - p from (by omega)) ⟨[(2, .ptr 2 b1 0), (10, aI ((p : Int) + 1)), (5, .rw 5 Y ((addE U ((findN f x2).l.take j)).length))], [(2, .box b1 24 (fsyA f)), (5, .row Y 3 1 ((addE U ((findN f x2).l.take j)).map intA))]⟩ ⟨sR, Sub.of_eq (congrArg aI (by first | omega | rfl)), sR, trivial⟩ ⟨⟨_, rfl, SubB.refl _⟩, ⟨_, rfl, SubB.refl _⟩, trivial⟩) a3.1 a3.2 ha3)
 <| fun q3 => have p3 := decF q3; .r 2 <| .frz 5 [4] [] [V = V, U.length = (U.map intA).length] ⟨rfl, (by first | rfl | (simp; done) | (simp; omega)), trivial⟩ <|
 .fin (x := .sl 1 false (U.map intA)) (r := .sl 1 false ((underF f i).map intA)) [] trivial (by exact (Sub.of_eq (by rw [UH.done hH2 (by omega)])).trans (Sub.loose _ _ _))) a2.1 a2.2.1 a2.2.2 ha2) a1.1 a1.2 ha1) Tryz.func63 rfl (by kernel_rfl) (by kernel_rfl)
end Go.Proofs.YtkhnialfkndiiaaGreat
