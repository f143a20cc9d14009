/- Layer 18's data: replies, calls, what is over, clients, answers, messages; what they read as in memory. Plain definitions. -/
import Derived.Test.YtpdedjbkfcaebaaRefStr
import Derived.Test.YtpdedjbkfcaebaaLawOf
set_option linter.unusedVariables false
namespace Go.Proofs.Ytpdedjbkfcaebaa
open Go.RowKit Go.ChangeShapes Go.WideShapes Go.ChangeAt Copyhold
def I64 (z : Int) : Prop := -9223372036854775808 ≤ z ∧ z ≤ 9223372036854775807
abbrev Txt := List UInt8
def txV (l : Txt) : Value := .string ⟨l.toArray⟩
structure Rep where
  e : Int
  a : Int
  b : Int
  n : Int
  t : Txt
  ns : List Txt
deriving DecidableEq
structure Cal where
  kind : Int
  ino : Int
  dest : Int
  pos : Int
  many : Int
  name : Txt
  name2 : Txt
  text : Txt
deriving DecidableEq
structure Don where
  seq : Int
  yes : Bool
  e : Int
  l : List Rep
deriving DecidableEq
structure Cli where
  me : Int
  epoch : Int
  seq : Int
  jobs : List (List Cal)
  phase : Int
  n : Int
  stamp : Int
  told : List Don
  now : List Rep
deriving DecidableEq
structure Rsp where
  kind : Int
  client : Int
  epoch : Int
  seq : Int
  n : Int
  r : Rep
deriving DecidableEq
structure Msg where
  kind : Int
  client : Int
  epoch : Int
  seq : Int
  n : Int
  stamp : Int
  c : Cal
deriving DecidableEq
def OkRep (r : Rep) : Prop := (I64 r.e ∧ I64 r.a ∧ I64 r.b ∧ I64 r.n) ∧ r.t.length ≤ 140737488351232 ∧ r.ns.length ≤ 8796093022207 ∧ ∀ l ∈ r.ns, l.length ≤ 140737488351232
def OkCal (c : Cal) : Prop := (I64 c.kind ∧ I64 c.ino ∧ I64 c.dest ∧ I64 c.pos ∧ I64 c.many) ∧ c.name.length ≤ 140737488351232 ∧ c.name2.length ≤ 140737488351232 ∧ c.text.length ≤ 140737488351232
def repC (r : Rep) (nv : Value) : List Value := [.int .i64 r.e, .int .i64 r.a, .int .i64 r.b, .int .i64 r.n, txV r.t, nv]
def calC (c : Cal) : List Value := [.int .i64 c.kind, .int .i64 c.ino, .int .i64 c.dest, .int .i64 c.pos, .int .i64 c.many, txV c.name, txV c.name2, txV c.text]
def RepR (w : World) (r : Rep) (cs : List Value) : Prop := ∃ nv, cs = repC r nv ∧ Row w nv (r.ns.map strV) ∧ OkRep r
def CalR (c : Cal) (cs : List Value) : Prop := cs = calC c ∧ OkCal c
def RepsIn (w : World) (v : Value) (l : List Rep) : Prop := SlOf (RepR w) w 6 v l
def CalsIn (w : World) (v : Value) (l : List Cal) : Prop := SlOf CalR w 8 v l
def JobR (w : World) (j : List Cal) (cs : List Value) : Prop := ∃ jv, cs = [jv] ∧ CalsIn w jv j ∧ j.length ≤ 8796093022207
def DonR (w : World) (d : Don) (cs : List Value) : Prop := ∃ lv, cs = [.int .i64 d.seq, .bool d.yes, .int .i64 d.e, lv] ∧ RepsIn w lv d.l ∧ d.l.length ≤ 8796093022207 ∧ I64 d.seq ∧ I64 d.e
def JobsIn (w : World) (v : Value) (l : List (List Cal)) : Prop := SlOf (JobR w) w 1 v l
def DonsIn (w : World) (v : Value) (l : List Don) : Prop := SlOf (DonR w) w 4 v l
theorem RepR.below {w w' : World} {r : Rep} {cs : List Value} (h : RepR w r cs) (hb : Below w.heap.size w w') : RepR w' r cs := by
  obtain ⟨nv, h1, h2, h3⟩ := h
  exact ⟨nv, h1, h2.below hb, h3⟩
theorem RepsIn.below {w w' : World} {v : Value} {l : List Rep} (h : RepsIn w v l) (hb : Below w.heap.size w w') : RepsIn w' v l := (SlOf.below h hb).mono fun _ _ hr => hr.below hb
theorem CalsIn.below {w w' : World} {v : Value} {l : List Cal} (h : CalsIn w v l) (hb : Below w.heap.size w w') : CalsIn w' v l := SlOf.below h hb
theorem JobR.below {w w' : World} {r : List Cal} {cs : List Value} (h : JobR w r cs) (hb : Below w.heap.size w w') : JobR w' r cs := by
  obtain ⟨nv, h1, h2, h3⟩ := h
  exact ⟨nv, h1, h2.below hb, h3⟩
theorem DonR.below {w w' : World} {r : Don} {cs : List Value} (h : DonR w r cs) (hb : Below w.heap.size w w') : DonR w' r cs := by
  obtain ⟨nv, h1, h2, h3⟩ := h
  exact ⟨nv, h1, h2.below hb, h3⟩
theorem JobsIn.below {w w' : World} {v : Value} {l : List (List Cal)} (h : JobsIn w v l) (hb : Below w.heap.size w w') : JobsIn w' v l := (SlOf.below h hb).mono fun _ _ hr => hr.below hb
theorem DonsIn.below {w w' : World} {v : Value} {l : List Don} (h : DonsIn w v l) (hb : Below w.heap.size w w') : DonsIn w' v l := (SlOf.below h hb).mono fun _ _ hr => hr.below hb
theorem RepsIn.at {w : World} {A : Option Addr} {c : Nat} {l : List Rep} (h : RepsIn w (.slice A l.length c) l) (i : Nat) (hi : i < l.length) :
    ∃ b off B d, A = some ⟨b, off, none⟩ ∧ b < w.heap.size ∧ w.cell? ⟨b, off + i * 6, none⟩ = some (.int .i64 l[i].e) ∧ w.cell? ⟨b, off + i * 6 + 1, none⟩ = some (.int .i64 l[i].a) ∧ w.cell? ⟨b, off + i * 6 + 2, none⟩ = some (.int .i64 l[i].b) ∧ w.cell? ⟨b, off + i * 6 + 3, none⟩ = some (.int .i64 l[i].n) ∧ w.cell? ⟨b, off + i * 6 + 4, none⟩ = some (.string ⟨l[i].t.toArray⟩) ∧ w.cell? ⟨b, off + i * 6 + 5, none⟩ = some (.slice B l[i].ns.length d) ∧ Row w (.slice B l[i].ns.length d) (l[i].ns.map strV) ∧ OkRep l[i] := by
  obtain ⟨b, off, cs, hA, hb, hl, ⟨nv, rfl, hrow, hok⟩, hc⟩ := SlOf.at h i (List.getElem?_eq_getElem hi)
  obtain ⟨B, d, rfl⟩ := hrow.shape
  rw [List.length_map] at hrow hc
  exact ⟨b, off, B, d, hA, hb, hc 0 _ rfl, hc 1 _ rfl, hc 2 _ rfl, hc 3 _ rfl, hc 4 _ rfl, hc 5 _ rfl, hrow, hok⟩
theorem CalsIn.at {w : World} {A : Option Addr} {c : Nat} {l : List Cal} (h : CalsIn w (.slice A l.length c) l) (i : Nat) (hi : i < l.length) :
    ∃ b off, A = some ⟨b, off, none⟩ ∧ b < w.heap.size ∧ (∀ j y, (calC l[i])[j]? = some y → w.cell? ⟨b, off + i * 8 + j, none⟩ = some y) ∧ OkCal l[i] := by
  obtain ⟨b, off, cs, hA, hb, hl, ⟨rfl, hok⟩, hc⟩ := SlOf.at h i (List.getElem?_eq_getElem hi)
  exact ⟨b, off, hA, hb, fun j y hy => by rw [Nat.add_assoc]; exact hc j y hy, hok⟩
theorem JobsIn.at {w : World} {A : Option Addr} {c : Nat} {l : List (List Cal)} (h : JobsIn w (.slice A l.length c) l) (i : Nat) (hi : i < l.length) :
    ∃ b off B d, A = some ⟨b, off, none⟩ ∧ b < w.heap.size ∧ w.cell? ⟨b, off + i, none⟩ = some (.slice B l[i].length d) ∧ CalsIn w (.slice B l[i].length d) l[i] ∧ l[i].length ≤ 8796093022207 := by
  obtain ⟨b, off, cs, hA, hb, hl, ⟨nv, rfl, hrow, hok⟩, hc⟩ := SlOf.at h i (List.getElem?_eq_getElem hi)
  obtain ⟨B, d, rfl⟩ := SlOf.shape hrow
  have := hc 0 _ rfl
  rw [Nat.mul_one, Nat.add_zero] at this
  exact ⟨b, off, B, d, hA, hb, this, hrow, hok⟩
theorem DonsIn.at {w : World} {A : Option Addr} {c : Nat} {l : List Don} (h : DonsIn w (.slice A l.length c) l) (i : Nat) (hi : i < l.length) :
    ∃ b off B d, A = some ⟨b, off, none⟩ ∧ b < w.heap.size ∧ w.cell? ⟨b, off + i * 4, none⟩ = some (.int .i64 l[i].seq) ∧ w.cell? ⟨b, off + i * 4 + 1, none⟩ = some (.bool l[i].yes) ∧ w.cell? ⟨b, off + i * 4 + 2, none⟩ = some (.int .i64 l[i].e) ∧ w.cell? ⟨b, off + i * 4 + 3, none⟩ = some (.slice B l[i].l.length d) ∧ RepsIn w (.slice B l[i].l.length d) l[i].l ∧ l[i].l.length ≤ 8796093022207 ∧ I64 l[i].seq ∧ I64 l[i].e := by
  obtain ⟨b, off, cs, hA, hb, hl, ⟨nv, rfl, hrow, hok⟩, hc⟩ := SlOf.at h i (List.getElem?_eq_getElem hi)
  obtain ⟨B, d, rfl⟩ := SlOf.shape hrow
  exact ⟨b, off, B, d, hA, hb, hc 0 _ rfl, hc 1 _ rfl, hc 2 _ rfl, hc 3 _ rfl, hrow, hok⟩
def cliC (c : Cli) (jv tv nv : Value) : Array Value := #[.int .i64 c.me, .int .i64 c.epoch, .int .i64 c.seq, jv, .int .i64 c.phase, .int .i64 c.n, .int .i64 c.stamp, tv, nv]
def OkCli (c : Cli) : Prop := (I64 c.me ∧ I64 c.epoch ∧ I64 c.seq ∧ I64 c.phase ∧ I64 c.n ∧ I64 c.stamp) ∧ c.jobs.length ≤ 8796093022207 ∧ c.told.length ≤ 8796093022207 ∧ c.now.length ≤ 8796093022207
structure CliIn (w : World) (jv tv nv : Value) (c : Cli) : Prop where
  jobs : JobsIn w jv c.jobs
  told : DonsIn w tv c.told
  now : RepsIn w nv c.now
  ok : OkCli c
theorem CliIn.below {w w' : World} {jv tv nv : Value} {c : Cli} (h : CliIn w jv tv nv c) (hb : Below w.heap.size w w') : CliIn w' jv tv nv c := ⟨h.jobs.below hb, h.told.below hb, h.now.below hb, h.ok⟩
def CliV (w : World) (v : Value) (c : Cli) : Prop := ∃ jv tv nv, v = .agg (cliC c jv tv nv) ∧ CliIn w jv tv nv c
theorem CliV.below {w w' : World} {v : Value} {c : Cli} (h : CliV w v c) (hb : Below w.heap.size w w') : CliV w' v c := by
  obtain ⟨jv, tv, nv, h1, h2⟩ := h
  exact ⟨jv, tv, nv, h1, h2.below hb⟩
theorem CliIn.shape {w : World} {jv tv nv : Value} {c : Cli} (h : CliIn w jv tv nv c) : ∃ A a B b D d, jv = .slice A c.jobs.length a ∧ tv = .slice B c.told.length b ∧ nv = .slice D c.now.length d := by
  obtain ⟨A, a, h1⟩ := SlOf.shape h.jobs
  obtain ⟨B, b, h2⟩ := SlOf.shape h.told
  obtain ⟨D, d, h3⟩ := SlOf.shape h.now
  exact ⟨A, a, B, b, D, d, h1, h2, h3⟩
end Go.Proofs.Ytpdedjbkfcaebaa
