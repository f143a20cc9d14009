/- What was moved is found, and moved back: the mathematics. The law DirsMoves over data. What comes in, by its type: an abstract value that describes it. Over any program. No conditions beyond each law's own. File systems among a law's arguments: what they read as. What DirsMoves is asked of. -/
import Derived.Test.YtkepkbgebickiaaMrgU
import Derived.Test.YtkepkbgebickiaaMrgT
import Derived.Test.YtkepkbgebickiaaMrgH
import Derived.Test.YtkepkbgebickiaaMrgI
import Derived.Test.YtkepkbgebickiaaRows
set_option linter.unusedVariables false
set_option linter.unusedSimpArgs false
namespace Go.Proofs.Ytkepkbgebickiaa
open Go Go.RowKit Copyhold
open Copyhold.Name (Srt insE delE getE isAt)
structure Goes (g : Fsy) (a : Int) (s : Txt) (b : Int) (t : Txt) (d e : Nod) (j : Int) (n : Nod) : Prop where
  ok : OkF g
  rows : rowsP g
  dir : atF g a = some d
  kind : d.kind = 2
  chk : checkE s = 0
  ent : getE (lI d.l) s = some j
  to : atF g b = some e
  kinde : e.kind = 2
  chkt : checkE t = 0
  none : getE (lI e.l) t = .none
  node : atF g j = some n
  room : ¬ b = a → e.l.length < 256
noncomputable def Goes.mid {g : Fsy} {a : Int} {s : Txt} {b : Int} {t : Txt} {d e : Nod} {j : Int} {n : Nod} (_ : Goes g a s b t d e j n) : Nod := if b = a then withL d (delL d.l s) else e
structure Gone2 (g : Fsy) (a : Int) (s : Txt) (b : Int) (t : Txt) (d : Nod) (j : Int) (m : Nod) : Prop where
  ok : OkF (enterF (leaveF g a s) b t j)
  rows : rowsP (enterF (leaveF g a s) b t j)
  next : (enterF (leaveF g a s) b t j).next = g.next
  at0 : ∀ x, atF (leaveF g a s) x = if x = a then some (withL d (delL d.l s)) else atF g x
  rows0 : rowsP (leaveF g a s)
  ok0 : OkF (leaveF g a s)
  next0 : (leaveF g a s).next = g.next
  at1 : ∀ x, atF (enterF (leaveF g a s) b t j) x = if x = b then some (withL m (entL m.l t j)) else atF (leaveF g a s) x
  mid : atF (leaveF g a s) b = some m
  kind : m.kind = 2
  mis : isB m.l t = false
  ment : entE m.l t j = 0
  look : lookE (enterF (leaveF g a s) b t j) b t = 0
  lookN : atF (enterF (leaveF g a s) b t j) j = some (lookN (enterF (leaveF g a s) b t j) b t)
  gone : lookE (enterF (leaveF g a s) b t j) a s = 6
theorem Goes.go {g : Fsy} {a : Int} {s : Txt} {b : Int} {t : Txt} {d e : Nod} {j : Int} {n : Nod} (G : Goes g a s b t d e j n) (ht : t.length ≤ 1000000) : Gone2 g a s b t d j G.mid := by
  obtain ⟨l1, l2, l3, l4, l5⟩ := leave_all (s := s) G.ok G.rows G.dir G.kind
  have hrow := (dir_row (rows_at G.rows G.dir).1 G.kind).2
  have hs := row_srt hrow
  have hlen := hrow.1
  have hdl := del_len1 hs G.ent
  have hm : atF (leaveF g a s) b = some G.mid := by
    rw [l5]
    unfold Goes.mid
    split
    · rfl
    · exact G.to
  have hk : G.mid.kind = 2 := by
    unfold Goes.mid
    split
    · exact G.kind
    · exact G.kinde
  have hde : b = a → d = e := fun h => by
    have h1 := G.dir
    rw [← h, G.to] at h1
    exact (Option.some.inj h1).symm
  have hg : getE (lI G.mid.l) t = .none := by
    unfold Goes.mid
    split
    · rename_i h
      show getE (lI (delL d.l s)) t = _
      rw [get_del hs]
      split
      · rfl
      · rw [hde h]; exact G.none
    · exact G.none
  have hb : isB G.mid.l t = false := by rw [isB_get, hg]; rfl
  have hml : G.mid.l.length < 256 := by
    unfold Goes.mid
    split
    · show (delL d.l s).length < 256
      omega
    · rename_i h; exact G.room h
  obtain ⟨n1, n2, n3⟩ := rows_at G.rows G.node
  have hj1 : 1 ≤ j := by have := n1.1; omega
  have hj2 : I64 j := by have := (G.ok.2.2 n (at_mem G.node)).1; rw [n3] at this; exact this
  obtain ⟨e1, e2, e3, e4, e5⟩ := enter_all l1 l2 hm hk G.chkt ht hj1 hj2 hb hml
  have hmrow := (dir_row (rows_at l2 hm).1 hk).2
  have he0 := entE_cases (n := j) G.chkt hj1 hb hml
  have hst : b = a → ¬ s = t := fun h h2 => by
    have h3 := G.ent
    rw [hde h, h2, G.none] at h3
    cases h3
  have hy : ∃ y, atF (enterF (leaveF g a s) b t j) j = some y := by
    rw [e5]
    split
    · exact ⟨_, rfl⟩
    · rw [l5]
      split
      · exact ⟨_, rfl⟩
      · exact ⟨_, G.node⟩
  obtain ⟨y, hy⟩ := hy
  have hbb : atF (enterF (leaveF g a s) b t j) b = some (withL G.mid (entL G.mid.l t j)) := by rw [e5, if_pos rfl]
  have hget : getE (lI (withL G.mid (entL G.mid.l t j)).l) t = some j := by
    show getE (lI (entL G.mid.l t j)) t = _
    rw [get_ent (row_srt hmrow) he0 hb, if_pos rfl]
  obtain ⟨k1, k2⟩ := look_at hbb hk G.chkt hget hy
  refine ⟨e1, e2, by rw [e4, l4], l5, l2, l1, l4, e5, hm, hk, hb, he0, k1, by rw [k2]; exact hy, ?_⟩
  by_cases h : b = a
  · refine look_gone (d := withL G.mid (entL G.mid.l t j)) e2 (by rw [e5, if_pos h.symm]) hk G.chk ?_
    show getE (lI (entL G.mid.l t j)) s = _
    rw [get_ent (row_srt hmrow) he0 hb, if_neg (hst h)]
    unfold Goes.mid
    rw [if_pos h]
    show getE (lI (delL d.l s)) s = _
    rw [get_del hs, if_pos rfl]
  · refine look_gone (d := withL d (delL d.l s)) e2 (by rw [e5, if_neg (fun e => h e.symm), l5, if_pos rfl]) G.kind G.chk ?_
    show getE (lI (delL d.l s)) s = _
    rw [get_del hs, if_pos rfl]
theorem Goes.back {g : Fsy} {a : Int} {s : Txt} {b : Int} {t : Txt} {d e : Nod} {j : Int} {n : Nod} (G : Goes g a s b t d e j n) (ht : t.length ≤ 1000000) (hs0 : s.length ≤ 1000000) (T : TreeP g) (hw : withinB g b n = false) :
    movErr (enterF (leaveF g a s) b t j) b t a s = 0 ∧ movF (enterF (leaveF g a s) b t j) b t a s = g := by
  have Z := G.go ht
  have hrow := (dir_row (rows_at G.rows G.dir).1 G.kind).2
  have hs := row_srt hrow
  have hnj := at_ino G.node
  have hkid : j ∈ kidsF g a := by
    obtain ⟨x, hx, _, hi⟩ := get_some_mem hs G.ent
    exact kids_of G.dir G.kind hx hi
  have hja : ¬ j = a := fun h => T.acyc (w := a) (.one (by rw [h] at hkid; exact hkid))
  have hjb : ¬ j = b := fun h => by
    have h1 := G.node
    rw [h, G.to] at h1
    have h2 := Option.some.inj h1
    unfold withinB at hw
    rw [← h2, G.kinde, h2, hnj, h] at hw
    simp at hw
  have hyn : lookN (enterF (leaveF g a s) b t j) b t = n := by
    have h1 := Z.lookN
    rw [Z.at1, if_neg hjb, Z.at0, if_neg hja, G.node] at h1
    exact (Option.some.inj h1).symm
  have hmid : ∀ x ∈ G.mid.l, x.ino ∈ kidsF g b := fun x hx => by
    unfold Goes.mid at hx
    split at hx
    · rename_i h
      rw [h]
      exact kids_of G.dir G.kind (del_sub x hx) rfl
    · exact kids_of G.to G.kinde hx rfl
  have hkids : ∀ p z, z ∈ kidsF (enterF (leaveF g a s) b t j) p → z ∈ kidsF g p ∨ z = j := fun p z hz => by
    obtain ⟨d', hd', hk', x, hx, hxz⟩ := kids_some hz
    rw [Z.at1] at hd'
    split at hd'
    · rename_i h
      obtain rfl := Option.some.inj hd'
      rcases ent_sub x hx with rfl | hx
      · exact .inr hxz.symm
      · left; rw [h, ← hxz]; exact hmid x hx
    · rw [Z.at0] at hd'
      split at hd'
      · rename_i h
        obtain rfl := Option.some.inj hd'
        left; rw [h]
        exact kids_of G.dir G.kind (del_sub x hx) hxz
      · exact .inl (kids_of hd' hk' hx hxz)
  have hreach : ∀ p w, Reach (enterF (leaveF g a s) b t j) p w → (p = j ∨ Reach g j p) → (w = j ∨ Reach g j w) := by
    have step : ∀ p z, z ∈ kidsF (enterF (leaveF g a s) b t j) p → (p = j ∨ Reach g j p) → (z = j ∨ Reach g j z) := fun p z hz hp => by
      rcases hkids p z hz with h | h
      · rcases hp with hp | hp
        · rw [hp] at h; exact .inr (.one h)
        · exact .inr (hp.snoc h)
      · exact .inl h
    intro p w h
    induction h with
    | one h => exact step _ _ h
    | more h _ ih => exact fun hp => ih (step _ _ h hp)
  have hwi : withinB (enterF (leaveF g a s) b t j) a n = false := by
    unfold withinB
    rw [hnj]
    by_cases hk : n.kind = 2
    · rw [show (a == j) = false from by simpa using fun h => hja h.symm]
      cases hb : hasB (reachF (enterF (leaveF g a s) b t j) j) a with
      | false => simp
      | true =>
        exfalso
        rcases hreach j a (reach_iff.1 hb) (.inl rfl) with h | h
        · exact hja h.symm
        · exact T.acyc (h.snoc hkid)
    · simp [hk]
  have hda : ∃ d3, atF (enterF (leaveF g a s) b t j) a = some d3 ∧ d3.kind = 2 ∧ (¬ a = b → d3.l.length < 256) := by
    rw [Z.at1]
    by_cases h : a = b
    · rw [if_pos h]; exact ⟨_, rfl, Z.kind, fun h2 => absurd h h2⟩
    · rw [if_neg h, Z.at0, if_pos rfl]
      refine ⟨_, rfl, G.kind, fun _ => ?_⟩
      show (delL d.l s).length < 256
      have := del_len1 hs G.ent
      have := hrow.1
      omega
  obtain ⟨d3, hd3, hk3, hl3⟩ := hda
  obtain ⟨q1, q2⟩ := dir_of hd3 hk3
  have h1 : mov1 (enterF (leaveF g a s) b t j) b t a s = 0 := by
    unfold mov1
    rw [first4, if_pos Z.look, if_pos q1, if_pos G.chk, hyn, hwi]; rfl
  have hB : movB (enterF (leaveF g a s) b t j) a s = false := by
    unfold movB
    rw [q2, isB_get]
    cases hg : getE (lI d3.l) s with
    | none => rfl
    | some i =>
      exfalso
      have hmem := get_some_mem (row_srt (dir_row (rows_at Z.rows hd3).1 hk3).2) hg
      obtain ⟨x, hx, _, hxi⟩ := hmem
      have hkz := kids_of hd3 hk3 hx hxi
      have hat : ∃ y, atF (enterF (leaveF g a s) b t j) i = some y := by
        rcases hkids a i hkz with h | h
        · obtain ⟨⟨y, hy⟩, _⟩ := T.kid a i h
          rw [Z.at1]
          split
          · exact ⟨_, rfl⟩
          · rw [Z.at0]
            split
            · exact ⟨_, rfl⟩
            · exact ⟨_, hy⟩
        · rw [h]; exact ⟨_, Z.lookN⟩
      obtain ⟨y, hy⟩ := hat
      have := (look_at hd3 hk3 G.chk hg hy).1
      rw [Z.gone] at this
      cases this
  have h2 : mov2 (enterF (leaveF g a s) b t j) b t a s = 0 := by
    unfold mov2
    rw [if_pos hB, when0 (by decide), q2]
    by_cases h : a = b
    · simp [h]
    · have := hl3 h
      have e : decide ((d3.l.length : Int) ≥ 256) = false := decide_eq_false (by omega)
      rw [e]; simp
  refine ⟨by unfold movErr; rw [if_pos h1, h2], ?_⟩
  unfold movF
  rw [if_pos h1, if_neg (fun h => by rw [hB] at h; cases h.1), if_pos h2, hB, hyn]
  unfold mov0
  rw [if_neg (by decide), hnj]
  have hbb : atF (enterF (leaveF g a s) b t j) b = some (withL G.mid (entL G.mid.l t j)) := by rw [Z.at1, if_pos rfl]
  obtain ⟨p1, p2, p3, p4, p5⟩ := leave_all (s := t) Z.ok Z.rows hbb Z.kind
  have hback : leaveF (enterF (leaveF g a s) b t j) b t = leaveF g a s := by
    refine fsy_ext (rows_rise p2) (rows_rise Z.rows0) (fun x => ?_) (by rw [p4, Z.next, Z.next0])
    rw [p5]
    by_cases h : x = b
    · rw [if_pos h, h, Z.mid]
      show some (withL _ (delL (entL G.mid.l t j) t)) = _
      have hsm := row_srt (dir_row (rows_at Z.rows0 Z.mid).1 Z.kind).2
      rw [del_ent hsm Z.ment Z.mis]
      rfl
    · rw [if_neg h, Z.at1, if_neg h]
  rw [hback]
  have haa : atF (leaveF g a s) a = some (withL d (delL d.l s)) := by rw [Z.at0, if_pos rfl]
  rw [enter_set haa]
  obtain ⟨n1, n2, n3⟩ := rows_at G.rows G.node
  show setL _ _ (entL (delL d.l s) s j) = g
  rw [ins_del hrow G.chk (by have := n1.1; omega) G.ent]
  obtain ⟨s1, s2, s3, s4⟩ := setL_rows Z.rows0 haa G.kind hrow
  refine fsy_ext (rows_rise s1) (rows_rise G.rows) (fun x => ?_) (by rw [s3, Z.next0])
  rw [s4]
  by_cases h : x = a
  · rw [if_pos h, h, G.dir]; rfl
  · rw [if_neg h, Z.at0, if_neg h]
theorem moves_facts {f : Fsy} {dir : Int} {s : Txt} {to : Int} {t : Txt} (okf : OkF f) (hf : fewF f) (hr : rightP f) (hs0 : s.length ≤ 1000000) (ht0 : t.length ≤ 1000000) (h : movErr f dir s to t = 0) :
    lookE f dir s = 0 ∧ (lookE f to t = 0 → (lookN f to t).ino = (lookN f dir s).ino → movF f dir s to t = f) ∧
      (¬ (lookE f to t = 0 ∧ (lookN f to t).ino = (lookN f dir s).ino) → ¬ (dir = to ∧ s = t) → OkF (movF f dir s to t) ∧ rowsP (movF f dir s to t) ∧ lookE (movF f dir s to t) to t = 0 ∧ (lookN (movF f dir s to t) to t).ino = (lookN f dir s).ino ∧ lookE (movF f dir s to t) dir s = 6 ∧
        (¬ lookE f to t = 0 → movErr (movF f dir s to t) to t dir s = 0 ∧ movF (movF f dir s to t) to t dir s = f)) := by
  have T := rightP_tree hf hr
  have hp := hr.1
  have h1 : mov1 f dir s to t = 0 := Classical.byContradiction fun hn => by
    unfold movErr at h
    rw [if_neg hn] at h
    exact hn h
  have h2 : mov2 f dir s to t = 0 := by
    unfold movErr at h
    rwa [if_pos h1] at h
  obtain ⟨d, dt, n, j, A⟩ := mov_of hp h1
  obtain ⟨e1, e2, e3⟩ := A.mB
  have hnj := A.nino
  have hlook := (look_at A.dir A.kind A.chk A.ent A.node).1
  have hst := row_srt (dir_row (rows_at hp A.to).1 A.kindt).2
  have hrowt := (dir_row (rows_at hp A.to).1 A.kindt).2
  cases hb : isB dt.l t with
  | false =>
    have hg : getE (lI dt.l) t = .none := by
      rw [isB_get] at hb
      cases hg : getE (lI dt.l) t with
      | none => rfl
      | some i => rw [hg] at hb; cases hb
    have hl6 := look_gone hp A.to A.kindt A.chkt hg
    have hm : movF f dir s to t = enterF (leaveF f dir s) to t j := by
      unfold movF
      rw [if_pos h1, if_neg (fun h => by rw [e1, hb] at h; cases h.1), if_pos h2, A.look]
      unfold mov0
      rw [if_neg (by rw [e1, hb]; decide), hnj]
    have hroom : ¬ to = dir → dt.l.length < 256 := fun hne => by
      unfold mov2 at h2
      rw [if_pos (by rw [e1, hb]), when0 (by decide), e3] at h2
      have : (to != dir) = true := by simpa using hne
      rw [this] at h2
      simp only [Bool.true_and, decide_eq_false_iff_not] at h2
      omega
    have G : Goes f dir s to t d dt j n := ⟨okf, hp, A.dir, A.kind, A.chk, A.ent, A.to, A.kindt, A.chkt, hg, A.node, hroom⟩
    have Z := G.go ht0
    refine ⟨hlook, fun h0 => (by rw [hl6] at h0; cases h0), fun _ _ => ?_⟩
    rw [hm, A.look]
    exact ⟨Z.ok, Z.rows, Z.look, (at_ino Z.lookN).trans hnj.symm, Z.gone, fun _ => G.back ht0 hs0 T A.apart⟩
  | true =>
    obtain ⟨i2, hg⟩ : ∃ i, getE (lI dt.l) t = some i := by
      rw [isB_get] at hb
      cases hg : getE (lI dt.l) t with
      | none => rw [hg] at hb; cases hb
      | some i => exact ⟨i, rfl⟩
    obtain ⟨x, hx, _, hxi⟩ := get_some_mem hst hg
    obtain ⟨⟨m, hm⟩, _⟩ := T.kid to i2 (kids_of A.to A.kindt hx hxi)
    obtain ⟨l1, l2⟩ := look_at A.to A.kindt A.chkt hg hm
    have hmi := at_ino hm
    have hI : getI dt.l t = i2 := by rw [getI_get, hg]; rfl
    have hfm : findN f (getI dt.l t) = m := by rw [hI]; exact (at_BN hm).2
    refine ⟨hlook, fun _ h0 => ?_, fun hne hdne => ?_⟩
    · rw [l2, A.look] at h0
      unfold movF
      rw [if_pos h1, if_pos ⟨by rw [e1, hb], by rw [e2, hI, A.look, ← hmi]; exact h0⟩]
    · have hij : ¬ i2 = j := fun h0 => hne ⟨l1, by rw [l2, A.look, hmi, hnj]; exact h0⟩
      have ho : overE n m = 0 := by
        unfold mov2 at h2
        rw [if_neg (by rw [e1, hb]; decide), if_neg (by rw [e2, hI, A.look, hnj]; exact hij), A.look, e2, hfm] at h2
        exact h2
      obtain ⟨hx1, hx2, hx3⟩ := mov_other hp A hb (by rw [hfm]; exact ho)
      rw [hfm] at hx1 hx2 hx3
      obtain ⟨w1, w2, w3, w4, w5⟩ := away_all (s := t) okf hp A.to A.kindt hx1
      have hmv : movF f dir s to t = enterF (leaveF (awayF f to t m) dir s) to t j := by
        unfold movF
        rw [if_pos h1, if_neg (fun h => hij (by have := h.2; rw [e2, hI, A.look, hnj] at this; exact this)), if_pos h2, A.look]
        unfold mov0
        rw [if_pos (by rw [e1, hb]), hnj, e2, hfm]
      have hto : atF (awayF f to t m) to = some (withL dt (delL dt.l t)) := by rw [w5, if_neg (fun e => hx3 e.symm), if_pos rfl]
      have hdir : ∃ d1, atF (awayF f to t m) dir = some d1 ∧ d1.kind = 2 ∧ getE (lI d1.l) s = some j := by
        rw [w5, if_neg (fun e => hx2 e.symm)]
        split
        · rename_i hdt
          have hd : d = dt := by
            have h3 := A.dir
            rw [hdt, A.to] at h3
            exact (Option.some.inj h3).symm
          refine ⟨_, rfl, A.kindt, ?_⟩
          show getE (lI (delL dt.l t)) s = _
          rw [get_del hst, if_neg (fun e => hdne ⟨hdt, e⟩), ← hd]
          exact A.ent
        · exact ⟨d, A.dir, A.kind, A.ent⟩
      obtain ⟨d1, g1, g2, g3⟩ := hdir
      have hnode : ∃ n1, atF (awayF f to t m) j = some n1 := by
        rw [w5, if_neg (fun e => hij (by rw [← hmi]; exact e.symm))]
        split
        · exact ⟨_, rfl⟩
        · exact ⟨_, A.node⟩
      obtain ⟨n1, hn1⟩ := hnode
      have G : Goes (awayF f to t m) dir s to t d1 (withL dt (delL dt.l t)) j n1 := ⟨w1, w2, g1, g2, A.chk, g3, hto, A.kindt, A.chkt, by
        show getE (lI (delL dt.l t)) t = _
        rw [get_del hst, if_pos rfl], hn1, fun _ => by
        show (delL dt.l t).length < 256
        have := del_len1 hst hg
        have := hrowt.1
        omega⟩
      have Z := G.go ht0
      rw [hmv, A.look]
      exact ⟨Z.ok, Z.rows, Z.look, (at_ino Z.lookN).trans hnj.symm, Z.gone, fun h0 => absurd l1 h0⟩
end Go.Proofs.Ytkepkbgebickiaa

set_option linter.unusedVariables false
set_option linter.unusedSimpArgs false
namespace Go.Proofs.Ytkepkbgebickiaa
open Go Go.RowKit Copyhold
structure Dmv where
  f : Fsy
  i : Int
  s : Txt
  b : Int
  t : Txt
def dmvA (a : Dmv) : List AV := [.sl 5 false (a.f.l.map nodA), aI a.f.next, aI a.i, aS a.s, aI a.b, aS a.t]
def OkDmv (a : Dmv) : Prop := OkF a.f
set_option maxRecDepth 100000 in
set_option maxHeartbeats 4000000 in
theorem dirsMoves_data (f : Fsy) (dir : Int) (s : Txt) (to : Int) (t : Txt) (okf : OkF f) : FSpec Try.prog 5 [.agg [.sl 5 false (f.l.map nodA), aI f.next, aI dir, aS s, aI to, aS t]] (aB true) := by
  exact spec_vc (F := Try.f5) 400 (
 .new fun b1 => .r 1 <| .run 2 [b1 = b1] ⟨rfl, trivial⟩ <|
 .new fun b2 => .run 1 [b2 = b2] ⟨rfl, trivial⟩ <|
 .run 3 [b1 = b1] ⟨rfl, trivial⟩ <|
 .run 3 [b1 = b1] ⟨rfl, trivial⟩ <|
 .run 3 [b1 = b1] ⟨rfl, trivial⟩ <|
 .run 3 [b1 = b1] ⟨rfl, trivial⟩ <|
 .call (shown_spec) <|
 .r 1 <| .run 1 [b2 = b2] ⟨rfl, trivial⟩ <|
 .call (fewr_spec f okf) <|
 .r 1 <| .r 3 <| .br 37 (!(dP (fewF f ∧ rightP f))) (fun q1 => have q1 := notT q1; have p1 := booF q1; .r 9 <| .r 2 <| .fin (x := aB true) (r := aB true) [] trivial (by exact Sub.of_eq (by first | rfl | (exact congrArg aB (dP_true.2 rfl)) | (simp; done))))
 <| fun q1 => have q1 := notF q1; have p1 := booT q1; have hfr := dP_true.1 q1; have hp := hfr.2.1; .r 5 <| .br 42 (decide (((s).length : Int) > 1000)) (fun q2 => have p2 := decT q2; .r 4 <| .r 2 <| .fin (x := aB true) (r := aB true) [] trivial (by exact Sub.of_eq (by first | rfl | (exact congrArg aB (dP_true.2 rfl)) | (simp; done))))
 <| fun q2 => have p2 := decF q2; .r 4 <| .br 46 (decide (((t).length : Int) > 1000)) (fun q3 => have p3 := decT q3; .r 2 <| .fin (x := aB true) (r := aB true) [] trivial (by exact Sub.of_eq (by first | rfl | (exact congrArg aB (dP_true.2 rfl)) | (simp; done))))
 <| fun q3 => have p3 := decF q3; .run 3 [b2 = b2] ⟨rfl, trivial⟩ <|
 .call (look_spec f dir s hp (by omega)) <|
 .r 3 <| .new fun b3 => .run 2 [b3 = b3] ⟨rfl, trivial⟩ <|
 .run 3 [b2 = b2] ⟨rfl, trivial⟩ <|
 .call (look_spec f to t hp (by omega)) <|
 .r 3 <| .new fun b4 => .run 2 [b4 = b4] ⟨rfl, trivial⟩ <|
 .run 5 [b2 = b2] ⟨rfl, trivial⟩ <|
 .call (move_spec f dir s to t okf hp (by omega) (by omega)) <|
 .r 3 <| .new fun b5 => .run 2 [b5 = b5] ⟨rfl, trivial⟩ <|
 .r 3 <| .br 73 ((movErr f dir s to t) != 0) (fun q4 => have p4 := bneT q4; .r 9 <| .r 2 <| .fin (x := aB true) (r := aB true) [] trivial (by exact Sub.of_eq (by first | rfl | (exact congrArg aB (dP_true.2 rfl)) | (simp; done))))
 <| fun q4 => have p4 := bneF q4; have hmf := moves_facts okf hfr.1 hfr.2 (by omega) (by omega) (show movErr f dir s to t = 0 from bneF q4); .r 4 <| .br 77 (dir == to) (fun q5 => have p5 := beqT q5; .r 5 <| .br 82 (s == t) (fun q6 => have p6 := beqT q6; .r 2 <| .fin (x := aB true) (r := aB true) [] trivial (by exact Sub.of_eq (by first | rfl | (exact congrArg aB (dP_true.2 rfl)) | (simp; done))))
 <| fun q6 => have p6 := beqF q6; .r 3 <| .br 86 ((lookE f to t) == 0) (fun q7 => have p7 := beqT q7; .run 6 [b4 = b4, b3 = b3] ⟨rfl, rfl, trivial⟩ <|
 .br 92 (((lookN f to t).ino) == ((lookN f dir s).ino)) (fun q8 => have p8 := beqT q8; .run 4 [b5 = b5, b2 = b2] ⟨rfl, rfl, trivial⟩ <|
 .callS (args0 := [.agg [.sl 5 false ((movF f dir s to t).l.map nodA), aI ((movF f dir s to t).next)], .agg [.sl 5 false (f.l.map nodA), aI f.next]]) (args := [.agg [.sl 5 false (f.l.map nodA), aI f.next], .agg [.sl 5 false (f.l.map nodA), aI f.next]]) ⟨by rw [(hmf.2.1 (beqT q7) (beqT q8))]; exact Sub.refl _, Sub.refl _, trivial⟩ (fsame_spec f f okf okf) <|
 .r 2 <| .fin (x := aB (dP (f = f))) (r := aB true) [] trivial (by exact Sub.of_eq (by first | rfl | (exact congrArg aB (dP_true.2 rfl)) | (simp; done))))
 <| fun q8 => have p8 := beqF q8; .run 3 [b5 = b5] ⟨rfl, trivial⟩ <|
 .call (look_spec (movF f dir s to t) to t (hmf.2.2 (fun h => absurd h.2 (beqF q8)) (fun h => absurd h.2 (beqF q6))).2.1 (by omega)) <|
 .r 3 <| .new fun b6 => .run 2 [b6 = b6] ⟨rfl, trivial⟩ <|
 .run 3 [b5 = b5] ⟨rfl, trivial⟩ <|
 .call (look_spec (movF f dir s to t) dir s (hmf.2.2 (fun h => absurd h.2 (beqF q8)) (fun h => absurd h.2 (beqF q6))).2.1 (by omega)) <|
 .r 3 <| .new fun b7 => .run 2 [b7 = b7] ⟨rfl, trivial⟩ <|
 .run 5 [b5 = b5] ⟨rfl, trivial⟩ <|
 .call (move_spec (movF f dir s to t) to t dir s (hmf.2.2 (fun h => absurd h.2 (beqF q8)) (fun h => absurd h.2 (beqF q6))).1 (hmf.2.2 (fun h => absurd h.2 (beqF q8)) (fun h => absurd h.2 (beqF q6))).2.1 (by omega) (by omega)) <|
 .r 3 <| .new fun b8 => .run 2 [b8 = b8] ⟨rfl, trivial⟩ <|
 .r 3 <| .is 124 (show ((lookE f dir s) != 0) = false from (by rw [hmf.1]; rfl)) <| .r 4 <| .is 128 (show ((lookE (movF f dir s to t) to t) != 0) = false from (by rw [(hmf.2.2 (fun h => absurd h.2 (beqF q8)) (fun h => absurd h.2 (beqF q6))).2.2.1]; rfl)) <| .run 7 [b6 = b6, b3 = b3] ⟨rfl, rfl, trivial⟩ <|
 .is 135 (show (((lookN (movF f dir s to t) to t).ino) != ((lookN f dir s).ino)) = false from (by rw [(hmf.2.2 (fun h => absurd h.2 (beqF q8)) (fun h => absurd h.2 (beqF q6))).2.2.2.1]; simp)) <| .r 3 <| .is 138 (show ((lookE (movF f dir s to t) dir s) != 6) = false from (by rw [(hmf.2.2 (fun h => absurd h.2 (beqF q8)) (fun h => absurd h.2 (beqF q6))).2.2.2.2.1]; rfl)) <| .r 5 <| .is 143 q7 <| .r 10 <| .fin (x := aB true) (r := aB true) [] trivial (by exact Sub.of_eq (by first | rfl | (exact congrArg aB (dP_true.2 rfl)) | (simp; done))))
 <| fun q7 => have p7 := beqF q7; .r 6 <| .run 3 [b5 = b5] ⟨rfl, trivial⟩ <|
 .call (look_spec (movF f dir s to t) to t (hmf.2.2 (fun h => absurd h.1 (beqF q7)) (fun h => absurd h.2 (beqF q6))).2.1 (by omega)) <|
 .r 3 <| .new fun b9 => .run 2 [b9 = b9] ⟨rfl, trivial⟩ <|
 .run 3 [b5 = b5] ⟨rfl, trivial⟩ <|
 .call (look_spec (movF f dir s to t) dir s (hmf.2.2 (fun h => absurd h.1 (beqF q7)) (fun h => absurd h.2 (beqF q6))).2.1 (by omega)) <|
 .r 3 <| .new fun b10 => .run 2 [b10 = b10] ⟨rfl, trivial⟩ <|
 .run 5 [b5 = b5] ⟨rfl, trivial⟩ <|
 .call (move_spec (movF f dir s to t) to t dir s (hmf.2.2 (fun h => absurd h.1 (beqF q7)) (fun h => absurd h.2 (beqF q6))).1 (hmf.2.2 (fun h => absurd h.1 (beqF q7)) (fun h => absurd h.2 (beqF q6))).2.1 (by omega) (by omega)) <|
 .r 3 <| .new fun b11 => .run 2 [b11 = b11] ⟨rfl, trivial⟩ <|
 .r 3 <| .is 124 (show ((lookE f dir s) != 0) = false from (by rw [hmf.1]; rfl)) <| .r 4 <| .is 128 (show ((lookE (movF f dir s to t) to t) != 0) = false from (by rw [(hmf.2.2 (fun h => absurd h.1 (beqF q7)) (fun h => absurd h.2 (beqF q6))).2.2.1]; rfl)) <| .run 7 [b9 = b9, b3 = b3] ⟨rfl, rfl, trivial⟩ <|
 .is 135 (show (((lookN (movF f dir s to t) to t).ino) != ((lookN f dir s).ino)) = false from (by rw [(hmf.2.2 (fun h => absurd h.1 (beqF q7)) (fun h => absurd h.2 (beqF q6))).2.2.2.1]; simp)) <| .r 3 <| .is 138 (show ((lookE (movF f dir s to t) dir s) != 6) = false from (by rw [(hmf.2.2 (fun h => absurd h.1 (beqF q7)) (fun h => absurd h.2 (beqF q6))).2.2.2.2.1]; rfl)) <| .r 5 <| .is 143 q7 <| .r 3 <| .is 146 (show ((movErr (movF f dir s to t) to t dir s) == 0) = true from (by rw [((hmf.2.2 (fun h => absurd h.1 (beqF q7)) (fun h => absurd h.2 (beqF q6))).2.2.2.2.2 (beqF q7)).1]; rfl)) <| .run 2 [b11 = b11, b2 = b2] ⟨rfl, rfl, trivial⟩ <|
 .callS (args0 := [.agg [.sl 5 false ((movF (movF f dir s to t) to t dir s).l.map nodA), aI ((movF (movF f dir s to t) to t dir s).next)], .agg [.sl 5 false (f.l.map nodA), aI f.next]]) (args := [.agg [.sl 5 false (f.l.map nodA), aI f.next], .agg [.sl 5 false (f.l.map nodA), aI f.next]]) ⟨by rw [((hmf.2.2 (fun h => absurd h.1 (beqF q7)) (fun h => absurd h.2 (beqF q6))).2.2.2.2.2 (beqF q7)).2]; exact Sub.refl _, Sub.refl _, trivial⟩ (fsame_spec f f okf okf) <|
 .r 4 <| .fin (x := aB (dP (f = f))) (r := aB true) [] trivial (by exact Sub.of_eq (by first | rfl | (exact congrArg aB (dP_true.2 rfl)) | (simp; done))))
 <| fun q5 => have p5 := beqF q5; .r 5 <| .r 3 <| .br 86 ((lookE f to t) == 0) (fun q9 => have p9 := beqT q9; .run 6 [b4 = b4, b3 = b3] ⟨rfl, rfl, trivial⟩ <|
 .br 92 (((lookN f to t).ino) == ((lookN f dir s).ino)) (fun q10 => have p10 := beqT q10; .run 4 [b5 = b5, b2 = b2] ⟨rfl, rfl, trivial⟩ <|
 .callS (args0 := [.agg [.sl 5 false ((movF f dir s to t).l.map nodA), aI ((movF f dir s to t).next)], .agg [.sl 5 false (f.l.map nodA), aI f.next]]) (args := [.agg [.sl 5 false (f.l.map nodA), aI f.next], .agg [.sl 5 false (f.l.map nodA), aI f.next]]) ⟨by rw [(hmf.2.1 (beqT q9) (beqT q10))]; exact Sub.refl _, Sub.refl _, trivial⟩ (fsame_spec f f okf okf) <|
 .r 2 <| .fin (x := aB (dP (f = f))) (r := aB true) [] trivial (by exact Sub.of_eq (by first | rfl | (exact congrArg aB (dP_true.2 rfl)) | (simp; done))))
 <| fun q10 => have p10 := beqF q10; .run 3 [b5 = b5] ⟨rfl, trivial⟩ <|
 .call (look_spec (movF f dir s to t) to t (hmf.2.2 (fun h => absurd h.2 (beqF q10)) (fun h => absurd h.1 (beqF q5))).2.1 (by omega)) <|
 .r 3 <| .new fun b12 => .run 2 [b12 = b12] ⟨rfl, trivial⟩ <|
 .run 3 [b5 = b5] ⟨rfl, trivial⟩ <|
 .call (look_spec (movF f dir s to t) dir s (hmf.2.2 (fun h => absurd h.2 (beqF q10)) (fun h => absurd h.1 (beqF q5))).2.1 (by omega)) <|
 .r 3 <| .new fun b13 => .run 2 [b13 = b13] ⟨rfl, trivial⟩ <|
 .run 5 [b5 = b5] ⟨rfl, trivial⟩ <|
 .call (move_spec (movF f dir s to t) to t dir s (hmf.2.2 (fun h => absurd h.2 (beqF q10)) (fun h => absurd h.1 (beqF q5))).1 (hmf.2.2 (fun h => absurd h.2 (beqF q10)) (fun h => absurd h.1 (beqF q5))).2.1 (by omega) (by omega)) <|
 .r 3 <| .new fun b14 => .run 2 [b14 = b14] ⟨rfl, trivial⟩ <|
 .r 3 <| .is 124 (show ((lookE f dir s) != 0) = false from (by rw [hmf.1]; rfl)) <| .r 4 <| .is 128 (show ((lookE (movF f dir s to t) to t) != 0) = false from (by rw [(hmf.2.2 (fun h => absurd h.2 (beqF q10)) (fun h => absurd h.1 (beqF q5))).2.2.1]; rfl)) <| .run 7 [b12 = b12, b3 = b3] ⟨rfl, rfl, trivial⟩ <|
 .is 135 (show (((lookN (movF f dir s to t) to t).ino) != ((lookN f dir s).ino)) = false from (by rw [(hmf.2.2 (fun h => absurd h.2 (beqF q10)) (fun h => absurd h.1 (beqF q5))).2.2.2.1]; simp)) <| .r 3 <| .is 138 (show ((lookE (movF f dir s to t) dir s) != 6) = false from (by rw [(hmf.2.2 (fun h => absurd h.2 (beqF q10)) (fun h => absurd h.1 (beqF q5))).2.2.2.2.1]; rfl)) <| .r 5 <| .is 143 q9 <| .r 10 <| .fin (x := aB true) (r := aB true) [] trivial (by exact Sub.of_eq (by first | rfl | (exact congrArg aB (dP_true.2 rfl)) | (simp; done))))
 <| fun q9 => have p9 := beqF q9; .r 6 <| .run 3 [b5 = b5] ⟨rfl, trivial⟩ <|
 .call (look_spec (movF f dir s to t) to t (hmf.2.2 (fun h => absurd h.1 (beqF q9)) (fun h => absurd h.1 (beqF q5))).2.1 (by omega)) <|
 .r 3 <| .new fun b15 => .run 2 [b15 = b15] ⟨rfl, trivial⟩ <|
 .run 3 [b5 = b5] ⟨rfl, trivial⟩ <|
 .call (look_spec (movF f dir s to t) dir s (hmf.2.2 (fun h => absurd h.1 (beqF q9)) (fun h => absurd h.1 (beqF q5))).2.1 (by omega)) <|
 .r 3 <| .new fun b16 => .run 2 [b16 = b16] ⟨rfl, trivial⟩ <|
 .run 5 [b5 = b5] ⟨rfl, trivial⟩ <|
 .call (move_spec (movF f dir s to t) to t dir s (hmf.2.2 (fun h => absurd h.1 (beqF q9)) (fun h => absurd h.1 (beqF q5))).1 (hmf.2.2 (fun h => absurd h.1 (beqF q9)) (fun h => absurd h.1 (beqF q5))).2.1 (by omega) (by omega)) <|
 .r 3 <| .new fun b17 => .run 2 [b17 = b17] ⟨rfl, trivial⟩ <|
 .r 3 <| .is 124 (show ((lookE f dir s) != 0) = false from (by rw [hmf.1]; rfl)) <| .r 4 <| .is 128 (show ((lookE (movF f dir s to t) to t) != 0) = false from (by rw [(hmf.2.2 (fun h => absurd h.1 (beqF q9)) (fun h => absurd h.1 (beqF q5))).2.2.1]; rfl)) <| .run 7 [b15 = b15, b3 = b3] ⟨rfl, rfl, trivial⟩ <|
 .is 135 (show (((lookN (movF f dir s to t) to t).ino) != ((lookN f dir s).ino)) = false from (by rw [(hmf.2.2 (fun h => absurd h.1 (beqF q9)) (fun h => absurd h.1 (beqF q5))).2.2.2.1]; simp)) <| .r 3 <| .is 138 (show ((lookE (movF f dir s to t) dir s) != 6) = false from (by rw [(hmf.2.2 (fun h => absurd h.1 (beqF q9)) (fun h => absurd h.1 (beqF q5))).2.2.2.2.1]; rfl)) <| .r 5 <| .is 143 q9 <| .r 3 <| .is 146 (show ((movErr (movF f dir s to t) to t dir s) == 0) = true from (by rw [((hmf.2.2 (fun h => absurd h.1 (beqF q9)) (fun h => absurd h.1 (beqF q5))).2.2.2.2.2 (beqF q9)).1]; rfl)) <| .run 2 [b17 = b17, b2 = b2] ⟨rfl, rfl, trivial⟩ <|
 .callS (args0 := [.agg [.sl 5 false ((movF (movF f dir s to t) to t dir s).l.map nodA), aI ((movF (movF f dir s to t) to t dir s).next)], .agg [.sl 5 false (f.l.map nodA), aI f.next]]) (args := [.agg [.sl 5 false (f.l.map nodA), aI f.next], .agg [.sl 5 false (f.l.map nodA), aI f.next]]) ⟨by rw [((hmf.2.2 (fun h => absurd h.1 (beqF q9)) (fun h => absurd h.1 (beqF q5))).2.2.2.2.2 (beqF q9)).2]; exact Sub.refl _, Sub.refl _, trivial⟩ (fsame_spec f f okf okf) <|
 .r 4 <| .fin (x := aB (dP (f = f))) (r := aB true) [] trivial (by exact Sub.of_eq (by first | rfl | (exact congrArg aB (dP_true.2 rfl)) | (simp; done)))) Try.func5 rfl (by kernel_rfl) (by kernel_rfl)
theorem dirsMoves_spec (a : Dmv) (h : OkDmv a) : FSpec Try.prog 5 [.agg (dmvA a)] (aB true) := dirsMoves_data a.f a.i a.s a.b a.t h
end Go.Proofs.Ytkepkbgebickiaa

set_option linter.unusedVariables false
set_option linter.unusedSimpArgs false
namespace Copyhold
open Go Go.RowKit Go.ChangeShapes Go.WideShapes Go.ChangeAt Go.Deep
structure Opn {α : Type} (P : Program) (W : World) (t : TypeId) (en : α → List AV) (ok : α → Prop) : Prop where
  run : ∀ (H : Type) (enc : TypeId × Value → H) (fuel : Nat) (cs : List Value) (x : DataW H × List MemPlace),
    DataW.trod enc P W 0 (fun _ => true) true fuel t cs = some x → (∀ p ∈ x.2, p.block < W.heap.size) → (∀ n ∈ DataW.weights P t x.1, n ≤ 140737488351232) →
    ∃ a, CellsR (· < W.heap.size) W (en a) cs ∧ (∀ u ∈ cs, u.oneCell' = true) ∧ ok a
section
variable {P : Program} {W : World} {t : TypeId}
theorem Opn.map {α β : Type} {en : α → List AV} {ok : α → Prop} {en' : β → List AV} {ok' : β → Prop} (h : Opn P W t en ok) (f : α → β) (he : ∀ a, en' (f a) = en a) (ho : ∀ a, ok a → ok' (f a)) : Opn P W t en' ok' := Opn.mk fun H enc fuel cs x h1 h2 h3 => by
  obtain ⟨a, g1, g2, g3⟩ := h.run H enc fuel cs x h1 h2 h3
  exact ⟨f a, by rw [he]; exact g1, g2, ho a g3⟩
theorem cells_one {D : Nat → Prop} {w : World} {a : AV} {v : Value} (h : Ra D w a v) : CellsR D w [a] [v] := ⟨rfl, fun j x u hx hu => by
  match j, hx, hu with
  | 0, hx, hu => simp at hx hu; subst hx hu; exact h
  | j + 1, hx, _ => simp at hx⟩
theorem wf_i64 {z : Int} (w : (Lit.int .i64 z).wf = true) : -9223372036854775808 ≤ z ∧ z ≤ 9223372036854775807 := by
  simpa [Lit.wf, IntKind.min, IntKind.max, IntKind.signed, IntKind.bits] using w
theorem opn_int (hu : P.underlying t = some (.int .i64)) : Opn P W t (fun n : Int => [aI n]) (fun n => -9223372036854775808 ≤ n ∧ n ≤ 9223372036854775807) := Opn.mk fun H enc fuel cs x h1 h2 h3 => by
  obtain ⟨n, rfl, rfl, hw⟩ := DataW.trod_int hu h1
  exact ⟨n, cells_one (.val _), fun u hu => by obtain rfl := List.mem_singleton.1 hu; rfl, wf_i64 hw⟩
theorem opn_string (hu : P.underlying t = some .string) : Opn P W t (fun n : List UInt8 => [aS n]) (fun n => n.length ≤ 140737488351232) := Opn.mk fun H enc fuel cs x h1 h2 h3 => by
  obtain ⟨s, rfl, rfl, _⟩ := DataW.trod_string hu h1
  exact ⟨s.data.toList, cells_one (.val _), fun u hu => by obtain rfl := List.mem_singleton.1 hu; rfl, h3 _ (by simp [DataW.weights])⟩
theorem opn_slice {α : Type} {en : α → List AV} {ok : α → Prop} {e : TypeId} {k : Nat} (h : Opn P W e en ok) (a0 : α) (hu : P.underlying t = some (.slice e)) (hc : P.cellsOf e = k) (hk : 0 < k) (hb : 16 ≤ P.bytesOf e) :
    Opn P W t (fun l : List α => [.sl k false (l.map en)]) (fun l => l.length ≤ 8796093022207 ∧ ∀ a ∈ l, ok a) := Opn.mk fun H enc fuel cs x h1 h2 h3 => by
  obtain ⟨v, rs, rfl, hr, hd⟩ := open_slice_of (k := k) (R := fun a cs => CellsR (· < W.heap.size) W (en a) cs ∧ (∀ u ∈ cs, u.oneCell' = true) ∧ ok a) hu hc hk a0 (fun n cs' y hy hl hcl hww => h.run H enc n cs' y hy hl hww) h1 h2 h3
  have hsz := rows_sized hu hd h3
  have := Nat.le_trans (Nat.mul_le_mul_left rs.length hb) hsz
  have hra : Ra (· < W.heap.size) W (.sl k false (rs.map en)) v := ra_of_slOf hr (· < W.heap.size) (fun _ h => h) (fun a _ cs _ hR => ⟨hR.2.1, hR.1⟩)
  obtain ⟨A, c, rfl⟩ := hr.shape
  refine ⟨rs, cells_one hra, fun u hu => by obtain rfl := List.mem_singleton.1 hu; rfl, by omega, fun a ha => ?_⟩
  obtain ⟨css, g1, g2, g3⟩ := hr
  obtain ⟨i, hi, rfl⟩ := List.mem_iff_getElem.1 ha
  exact (g3 i _ _ (List.getElem?_eq_getElem (by omega)) (List.getElem?_eq_getElem hi)).2.2.2
structure OpnFs {γ : Type} (P : Program) (W : World) (N : Nat) (fs : List Field) (off : Nat) (en : γ → List AV) (ok : γ → Prop) : Prop where
  run : ∀ (H : Type) (enc : TypeId × Value → H) (m : Nat) (cs : List Value) (xs : List (DataW H × List MemPlace)), cs.length = N → xs.length = fs.length →
    (∀ (i : Nat) (f : Field), fs[i]? = some f → DataW.trod enc P W 0 (fun _ => true) true m f.type ((cs.drop f.offset).take (P.cellsOf f.type)) = xs[i]?) →
    (∀ x ∈ xs, ∀ p ∈ x.2, p.block < W.heap.size) → (∀ n ∈ DataW.weightsEach P (fs.map (·.type)) (xs.map (·.1)), n ≤ 140737488351232) →
    ∃ g, CellsR (· < W.heap.size) W (en g) (cs.drop off) ∧ (∀ u ∈ cs.drop off, u.oneCell' = true) ∧ ok g
theorem opnF_nil (N : Nat) : OpnFs P W N [] N (fun _ : Unit => []) (fun _ => True) := OpnFs.mk fun H enc m cs xs h1 h2 h3 h4 h5 => by
  have : cs.drop N = [] := List.drop_eq_nil_of_le (by omega)
  rw [this]
  exact ⟨(), ⟨rfl, fun j a u ha => by simp at ha⟩, fun u hu => by simp at hu, trivial⟩
theorem cells_append {D : Nat → Prop} {w : World} {xs ys : List AV} {cs ds : List Value} (h : CellsR D w xs cs) (k : CellsR D w ys ds) : CellsR D w (xs ++ ys) (cs ++ ds) := by
  refine ⟨by simp [h.1, k.1], fun j a u ha hu => ?_⟩
  by_cases hj : j < xs.length
  · rw [List.getElem?_append_left hj] at ha
    rw [List.getElem?_append_left (by rw [h.1]; exact hj)] at hu
    exact h.2 j a u ha hu
  · rw [List.getElem?_append_right (by omega)] at ha
    rw [List.getElem?_append_right (by rw [h.1]; omega), h.1] at hu
    exact k.2 _ a u ha hu
theorem opnF_cons {α γ : Type} {N off k : Nat} {f : Field} {fs : List Field} {en : α → List AV} {ok : α → Prop} {en2 : γ → List AV} {ok2 : γ → Prop} (h : Opn P W f.type en ok) (ho : f.offset = off) (hk : P.cellsOf f.type = k)
    (hr : OpnFs P W N fs (off + k) en2 ok2) : OpnFs P W N (f :: fs) off (fun g : α × γ => en g.1 ++ en2 g.2) (fun g => ok g.1 ∧ ok2 g.2) := OpnFs.mk fun H enc m cs xs h1 h2 h3 h4 h5 => by
  obtain ⟨x0, xr, rfl⟩ : ∃ a r, xs = a :: r := by
    cases xs with
    | nil => simp at h2
    | cons a r => exact ⟨a, r, rfl⟩
  have g0 := h3 0 f rfl
  rw [ho, hk] at g0
  simp only [List.map_cons, DataW.weightsEach] at h5
  obtain ⟨a, ha, ha2, ha3⟩ := h.run H enc m _ x0 (by simpa using g0) (h4 x0 (by simp)) (fun n hn => h5 n (by simp [hn]))
  obtain ⟨g, hg, hg2, hg3⟩ := hr.run H enc m cs xr h1 (by simpa using h2) (fun i f' hf => by have := h3 (i + 1) f' (by simpa using hf); simpa using this) (fun x hx => h4 x (by simp [hx])) (fun n hn => h5 n (by simp [hn]))
  have e : cs.drop off = (cs.drop off).take k ++ cs.drop (off + k) := by
    rw [← List.drop_drop, List.take_append_drop]
  refine ⟨(a, g), ?_, ?_, ha3, hg3⟩
  · rw [e]; exact cells_append ha hg
  · intro u hu
    rw [e] at hu
    rcases List.mem_append.1 hu with h | h
    · exact ha2 u h
    · exact hg2 u h
theorem opn_struct {γ : Type} {N : Nat} {fs : Array Field} {en : γ → List AV} {ok : γ → Prop} (hu : P.underlying t = some (.struct fs)) (hc : P.cellsOf t = N) (h : OpnFs P W N fs.toList 0 en ok) : Opn P W t en ok := Opn.mk fun H enc fuel cs x h1 h2 h3 => by
  obtain ⟨xs, m, _, rfl, hl, hlen, hfl⟩ := DataW.trod_struct hu h1
  obtain ⟨g, g1, g2, g3⟩ := h.run H enc m cs xs (by rw [hl, hc]) (by simpa using hlen) (fun i f hf => hfl i f (by simpa using hf)) (fun x hx p hp => h2 p (by simp only [List.mem_flatMap]; exact ⟨x, hx, hp⟩))
    (fun n hn => h3 n (by simp only [DataW.weights, hu]; exact hn))
  exact ⟨g, by simpa using g1, by simpa using g2, g3⟩
theorem arg_struct {α : Type} {en : α → List AV} {ok : α → Prop} {fs : Array Field} {H : Type} {enc : TypeId × Value → H} {base : Nat} {v : Value} {d : DataW H} {p : List MemPlace} (h : Opn P W t en ok) (hu : P.underlying t = some (.struct fs)) (hv : Value.okWide P W .any base t v)
    (ht : ∃ fuel, DataW.trod enc P W 0 (fun _ => true) true fuel t v.cells.toList = some (d, p)) (hlt : ∀ x ∈ p, x.block < W.heap.size) (hw : ∀ n ∈ DataW.weights P t d, n ≤ 140737488351232) : ∃ a, Ra (· < W.heap.size) W (.agg (en a)) v ∧ ok a := by
  obtain ⟨cs, rfl, _⟩ := okWide_struct hu hv
  obtain ⟨fuel, ht⟩ := ht
  obtain ⟨a, g1, g2, g3⟩ := h.run H enc fuel _ _ ht hlt hw
  refine ⟨a, .agg _ _ (by have := g1.1; simp [Value.cells] at this; omega) (fun j u hj => g2 u (by have := Array.mem_of_getElem? hj; simpa [Value.cells] using this)) (fun j x u hx hj => g1.2 j x u hx (by simpa [Value.cells] using hj)), g3⟩
def RaL (D : Nat → Prop) (w : World) : List AV → List Value → Prop
  | [], [] => True
  | x :: xs, v :: vs => Ra D w x v ∧ RaL D w xs vs
  | _, _ => False
theorem raAllL {D : Nat → Prop} {w : World} : ∀ (xs : List AV) (vs : List Value), RaL D w xs vs → RaAll D w xs vs.toArray
  | [], [], _ => ⟨rfl, fun j a u ha => by simp at ha⟩
  | x :: xs, v :: vs, h => by
    have ih := raAllL xs vs h.2
    refine ⟨by have := ih.1; simp at this ⊢; exact this, fun j a u ha hu => ?_⟩
    cases j with
    | zero => simp at ha hu; subst ha hu; exact h.1
    | succ j => exact ih.2 j a u (by simpa using ha) (by simpa using hu)
  | [], _ :: _, h => h.elim
  | _ :: _, [], h => h.elim
theorem law_callsV {f : FuncId} {args : List AV} {vs : Array Value} {w : World} (h : FSpec P f args (aB true)) (hv : RaAll (· < w.heap.size) w args vs) :
    Calls P f vs w (fun e w' => e = .returned (.bool true) ∧ Below w.heap.size w w') := by
  refine (h _ w vs (fun _ h => h) hv).mono ?_
  rintro e w' ⟨v, D', rfl, hb, _, _, hr⟩
  cases hr
  exact ⟨rfl, hb⟩
end
end Copyhold

set_option linter.unusedVariables false
set_option linter.unusedSimpArgs false
namespace Go.Proofs.Ytkepkbgebickiaa
open Go Go.RowKit Copyhold
theorem opv_ent (W : World) : Opn Try.prog W 87 entA OkE :=
  (opn_struct (N := 2) Try.underlying87 (by kernel_rfl) (opnF_cons (k := 1) (opn_string Try.underlying9) rfl (by kernel_rfl) (opnF_cons (k := 1) (opn_int Try.underlying3) rfl (by kernel_rfl) (opnF_nil 2)))).map (fun g => ⟨g.1, g.2.1⟩) (fun _ => rfl) (fun a h => ⟨h.1, h.2.1⟩)
theorem opv_ents (W : World) : Opn Try.prog W 29 (fun l : List (Ent) => [.sl 2 false (l.map entA)]) (fun l => l.length ≤ 8796093022207 ∧ ∀ a ∈ l, OkE a) := opn_slice (opv_ent W) (⟨[], 0⟩) Try.underlying29 (by kernel_rfl) (by decide) (Nat.le_of_ble_eq_true (by kernel_rfl))
theorem opv_nod (W : World) : Opn Try.prog W 31 nodA OkN :=
  (opn_struct (N := 5) Try.underlying31 (by kernel_rfl) (opnF_cons (k := 1) (opn_int Try.underlying3) rfl (by kernel_rfl) (opnF_cons (k := 1) (opn_int Try.underlying3) rfl (by kernel_rfl) (opnF_cons (k := 1) (opn_int Try.underlying3) rfl (by kernel_rfl) (opnF_cons (k := 1) (opn_string Try.underlying9) rfl (by kernel_rfl) (opnF_cons (k := 1) (opv_ents W) rfl (by kernel_rfl) (opnF_nil 5))))))).map (fun g => ⟨g.1, g.2.1, g.2.2.1, g.2.2.2.1, g.2.2.2.2.1⟩) (fun _ => rfl) (fun a h => ⟨h.1, h.2.1, h.2.2.1, h.2.2.2.1, h.2.2.2.2.1.1, h.2.2.2.2.1.2⟩)
theorem opv_nods (W : World) : Opn Try.prog W 22 (fun l : List (Nod) => [.sl 5 false (l.map nodA)]) (fun l => l.length ≤ 8796093022207 ∧ ∀ a ∈ l, OkN a) := opn_slice (opv_nod W) (⟨0, 0, 0, [], []⟩) Try.underlying22 (by kernel_rfl) (by decide) (Nat.le_of_ble_eq_true (by kernel_rfl))
theorem opv_fsy (W : World) : Opn Try.prog W 24 fsyA OkF :=
  (opn_struct (N := 2) Try.underlying24 (by kernel_rfl) (opnF_cons (k := 1) (opv_nods W) rfl (by kernel_rfl) (opnF_cons (k := 1) (opn_int Try.underlying3) rfl (by kernel_rfl) (opnF_nil 2)))).map (fun g => ⟨g.1, g.2.1⟩) (fun _ => rfl) (fun a h => ⟨h.2.1, h.1.1, h.1.2⟩)
end Go.Proofs.Ytkepkbgebickiaa

set_option linter.unusedVariables false
set_option linter.unusedSimpArgs false
namespace Go.Proofs.Ytkepkbgebickiaa
open Go Go.RowKit Copyhold
theorem opv_dmv (W : World) : Opn Try.prog W 51 dmvA OkDmv :=
  (opn_struct (N := 6) Try.underlying51 (by kernel_rfl) (opnF_cons (k := 2) (opv_fsy W) rfl (by kernel_rfl) (opnF_cons (k := 1) (opn_int Try.underlying3) rfl (by kernel_rfl) (opnF_cons (k := 1) (opn_string Try.underlying9) rfl (by kernel_rfl) (opnF_cons (k := 1) (opn_int Try.underlying3) rfl (by kernel_rfl) (opnF_cons (k := 1) (opn_string Try.underlying9) rfl (by kernel_rfl) (opnF_nil 6))))))).map (fun g => ⟨g.1, g.2.1, g.2.2.1, g.2.2.2.1, g.2.2.2.2.1⟩) (fun _ => rfl) (fun a h => h.1)
end Go.Proofs.Ytkepkbgebickiaa
