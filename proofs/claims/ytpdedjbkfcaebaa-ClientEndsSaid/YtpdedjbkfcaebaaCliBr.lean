/- Layer 18's data of both kinds, one for the other; its contracts as ones over data. No conditions beyond the data's own bounds. -/
import Derived.Test.YtpdedjbkfcaebaaCliA
import Derived.Test.YtpdedjbkfcaebaaCliD
import Derived.Test.YtpdedjbkfcaebaaCliSa3
import Derived.Test.YtpdedjbkfcaebaaCliSame
import Derived.Test.YtpdedjbkfcaebaaCliFew
import Derived.Test.YtpdedjbkfcaebaaCliCat
set_option linter.unusedVariables false
namespace Go.Proofs.Ytpdedjbkfcaebaa
open Go.RowKit Copyhold
theorem repR_of {D : Nat → Prop} {w : World} {r : Rep} {cs : List Value} (ok : OkRep r) (h : CellsR D w (repA r) cs) : RepR w r cs := by
  obtain ⟨h1, h2⟩ := h
  obtain ⟨c0, c1, c2, c3, c4, c5, rfl⟩ := list6 h1
  have e0 := h2 0 _ c0 rfl rfl
  have e1 := h2 1 _ c1 rfl rfl
  have e2 := h2 2 _ c2 rfl rfl
  have e3 := h2 3 _ c3 rfl rfl
  have e4 := h2 4 _ c4 rfl rfl
  have e5 := h2 5 _ c5 rfl rfl
  cases e0; cases e1; cases e2; cases e3; cases e4
  exact ⟨c5, rfl, row_of_ra e5, ok⟩
theorem calR_of {D : Nat → Prop} {w : World} {c : Cal} {cs : List Value} (ok : OkCal c) (h : CellsR D w (calA c) cs) : CalR c cs := by
  obtain ⟨h1, h2⟩ := h
  obtain ⟨c0, c1, c2, c3, c4, c5, c6, c7, rfl⟩ := list8 h1
  have e0 := h2 0 _ c0 rfl rfl
  have e1 := h2 1 _ c1 rfl rfl
  have e2 := h2 2 _ c2 rfl rfl
  have e3 := h2 3 _ c3 rfl rfl
  have e4 := h2 4 _ c4 rfl rfl
  have e5 := h2 5 _ c5 rfl rfl
  have e6 := h2 6 _ c6 rfl rfl
  have e7 := h2 7 _ c7 rfl rfl
  cases e0; cases e1; cases e2; cases e3; cases e4; cases e5; cases e6; cases e7
  exact ⟨rfl, ok⟩
theorem repsIn_of {D : Nat → Prop} {w : World} {t : Bool} {l : List Rep} {v : Value} (h : Ra D w (.sl 6 t (l.map repA)) v) (ok : ∀ r ∈ l, OkRep r) : RepsIn w v l :=
  slOf_of_ra h (fun _ _ => rfl) (fun r hr cs hc => repR_of (ok r hr) hc)
theorem calsIn_of {D : Nat → Prop} {w : World} {t : Bool} {l : List Cal} {v : Value} (h : Ra D w (.sl 8 t (l.map calA)) v) (ok : ∀ c ∈ l, OkCal c) : CalsIn w v l :=
  slOf_of_ra h (fun _ _ => rfl) (fun r hr cs hc => calR_of (ok r hr) hc)
def OkJob (j : List Cal) : Prop := j.length ≤ 8796093022207 ∧ ∀ c ∈ j, OkCal c
def OkDon (d : Don) : Prop := I64 d.seq ∧ I64 d.e ∧ d.l.length ≤ 8796093022207 ∧ ∀ r ∈ d.l, OkRep r
def OkX (x : Cli) : Prop := OkCli x ∧ (∀ j ∈ x.jobs, OkJob j) ∧ (∀ d ∈ x.told, OkDon d) ∧ ∀ r ∈ x.now, OkRep r
theorem jobsIn_of {D : Nat → Prop} {w : World} {t : Bool} {l : List (List Cal)} {v : Value} (h : Ra D w (.sl 1 t (l.map jobA)) v) (ok : ∀ j ∈ l, OkJob j) : JobsIn w v l :=
  slOf_of_ra h (fun _ _ => rfl) (fun j hj cs hc => by
    obtain ⟨h1, h2⟩ := hc
    obtain ⟨c0, rfl⟩ := list1 h1
    exact ⟨c0, rfl, calsIn_of (h2 0 _ c0 rfl rfl) (ok j hj).2, (ok j hj).1⟩)
theorem donsIn_of {D : Nat → Prop} {w : World} {t : Bool} {l : List Don} {v : Value} (h : Ra D w (.sl 4 t (l.map donA)) v) (ok : ∀ d ∈ l, OkDon d) : DonsIn w v l :=
  slOf_of_ra h (fun _ _ => rfl) (fun d hd cs hc => by
    obtain ⟨h1, h2⟩ := hc
    obtain ⟨c0, c1, c2, c3, rfl⟩ := list4 h1
    have e0 := h2 0 _ c0 rfl rfl
    have e1 := h2 1 _ c1 rfl rfl
    have e2 := h2 2 _ c2 rfl rfl
    have e3 := h2 3 _ c3 rfl rfl
    cases e0; cases e1; cases e2
    obtain ⟨o1, o2, o3, o4⟩ := ok d hd
    exact ⟨c3, rfl, repsIn_of e3 o4, o3, o1, o2⟩)
theorem cliV_of {D : Nat → Prop} {w : World} {x : Cli} {v : Value} (h : Ra D w (.agg (cliA x)) v) (ok : OkX x) : CliV w v x := by
  cases h with
  | agg cs vs h1 h2 h3 =>
    obtain ⟨c0, c1, c2, c3, c4, c5, c6, c7, c8, rfl⟩ := array9_of h1.symm
    have e0 := h3 0 _ c0 rfl rfl
    have e1 := h3 1 _ c1 rfl rfl
    have e2 := h3 2 _ c2 rfl rfl
    have e3 := h3 3 _ c3 rfl rfl
    have e4 := h3 4 _ c4 rfl rfl
    have e5 := h3 5 _ c5 rfl rfl
    have e6 := h3 6 _ c6 rfl rfl
    have e7 := h3 7 _ c7 rfl rfl
    have e8 := h3 8 _ c8 rfl rfl
    cases e0; cases e1; cases e2; cases e4; cases e5; cases e6
    exact ⟨c3, c7, c8, rfl, jobsIn_of e3 ok.2.1, donsIn_of e7 ok.2.2.1, repsIn_of e8 ok.2.2.2, ok.1⟩
theorem few_spec (x : Cli) (ok : OkX x) : FSpec Try.prog 20 [.agg (cliA x)] (aB (fewB x)) := fspec_val fun D w vs h => by
  obtain ⟨v, rfl, hv⟩ := h.one
  exact ref18_Few x v w (cliV_of hv ok)
theorem msg_spec {f : FuncId} {x : Cli} {m : Msg × Bool} (ok : OkX x) (h : ∀ v w, CliV w v x → Calls Try.prog f #[v] w (RetMsg w m)) : FSpec Try.prog f [.agg (cliA x)] (.tup [.agg (msgA m.1), aB m.2]) := by
  intro D w vs hD hv
  obtain ⟨v, rfl, hv2⟩ := hv.one
  refine (h v w (cliV_of hv2 ok)).mono ?_
  rintro e w' ⟨rfl, hb⟩
  refine ⟨_, D, rfl, hb, fun _ h => h, fun b h => ⟨Nat.lt_of_lt_of_le (hD b h) hb.size, .inl h⟩, .tup _ _ rfl (fun j a u ha hu => ?_)⟩
  match j, ha, hu with
  | 0, ha, hu =>
    simp at ha hu
    subst ha hu
    have e : Sub (.val (.agg (msgC m.1).toArray)) (.agg ((msgC m.1).toArray.toList.map .val)) := Sub.aggVal _ (fun j v hv => by
      have hm : v ∈ (msgC m.1) := by simpa using List.mem_of_getElem? (by simpa using hv : (msgC m.1)[j]? = some v)
      simp [msgC] at hm
      rcases hm with rfl | rfl | rfl | rfl | rfl | rfl | rfl | rfl | rfl | rfl | rfl | rfl | rfl | rfl <;> rfl)
    exact e D w' _ (.val _)
  | 1, ha, hu => simp at ha hu; subst ha hu; exact .val _
  | j + 2, ha, hu => simp at ha
theorem say_spec (x : Cli) (ok : OkX x) (hr : RightP x) (hn : x.now.length ≤ 1000) : FSpec Try.prog 12 [.agg (cliA x)] (.tup [.agg (msgA (sayD x).1), aB (sayD x).2]) := msg_spec ok fun v w h => client_Say x v w h hr hn
theorem asks_spec (x : Cli) (ok : OkX x) (hr : RightP x) : FSpec Try.prog 14 [.agg (cliA x)] (.tup [.agg (msgA (asksD x).1), aB (asksD x).2]) := msg_spec ok fun v w h => client_Asks x v w h hr
theorem grow_row {P : Program} {f : FuncId} {e k : Nat} {n : Nat} (h : ∀ w, Calls P f #[.slice none 0 0, .int .i64 (n : Int)] w (RetOwn w e k 0 [])) : RowSpec P f [aN, aI (n : Int)] e k [] := by
  intro D w vs hD hv
  obtain ⟨u, v, rfl, hu, hv2⟩ := hv.two
  cases hu
  cases hv2
  refine (h w).mono ?_
  rintro r w' ⟨V, rfl, hown, hb⟩
  exact ⟨V, [], rfl, hb, hown, by simp, fun j a u ha => by simp at ha⟩
end Go.Proofs.Ytpdedjbkfcaebaa
