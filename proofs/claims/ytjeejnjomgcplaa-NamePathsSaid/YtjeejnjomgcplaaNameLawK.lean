/- Layer 6: what its laws call, each with the slices as they come, old memory as it was. -/
import Derived.Test.YtjeejnjomgcplaaNameShown
import Derived.Test.YtjeejnjomgcplaaLaw
set_option linter.unusedVariables false
namespace Go.Proofs.Ytjeejnjomgcplaa
open Go.RowKit Copyhold Copyhold.Name

theorem below_of_dn {w w' : World} (h : ∃ n, w' = w.drewN n) : Below w.heap.size w w' := by
  obtain ⟨n, rfl⟩ := h
  exact below_dn (Below.refl _ _) n

theorem right_b (v : Value) (l : List Ent) (w : World) (hl : Ents w v l) (ho : OkEnts l) (hn : l.length ≤ 5864062014634) :
    Calls Try.prog 11 #[v] w fun e w' => e = .returned (.bool (rightE l)) ∧ Below w.heap.size w w' := by
  obtain ⟨A, c, rfl, -⟩ := hl.shape
  exact (ref06_Right l A c w hl ho hn).mono fun e w' ⟨h1, h2⟩ => ⟨h1, below_of_dn h2⟩
theorem nright_b (v : Value) (l : List Ent) (w : World) (hl : Ents w v l) (ho : OkEnts l) (hn : l.length ≤ 5864062014634) :
    Calls Try.prog 15 #[v] w fun e w' => e = .returned (.bool (rightE l)) ∧ Below w.heap.size w w' := by
  obtain ⟨A, c, rfl, -⟩ := hl.shape
  exact name_Right l A c w hl ho hn
theorem same_b (v u : Value) (a b : List Ent) (w : World) (ha : Ents w v a) (hb : Ents w u b) (hn : a.length ≤ 1000000) (hm : b.length ≤ 1000000) :
    Calls Try.prog 26 #[v, u] w fun e w' => e = .returned (.bool (a == b)) ∧ Below w.heap.size w w' := by
  obtain ⟨A, c, rfl, -⟩ := ha.shape
  obtain ⟨B, d, rfl, -⟩ := hb.shape
  exact (ref06_Same a b A B c d w ha hb hn hm).mono fun e w' ⟨h1, h2⟩ => ⟨h1, below_of_dn h2⟩
theorem find_b (v : Value) (l : List Ent) (s : List UInt8) (w : World) (hl : Ents w v l) (hn : l.length ≤ 1000000) (hs : Srt l) :
    Calls Try.prog 18 #[v, .string ⟨s.toArray⟩] w fun e w' => e = .returned (.tuple #[.int .i64 ((getE l s).getD 0), .bool (isAt l s)]) ∧ Below w.heap.size w w' := by
  obtain ⟨A, c, rfl, -⟩ := hl.shape
  exact name_Find l s A c w hl hn hs
theorem rfind_b (v : Value) (l : List Ent) (s : List UInt8) (w : World) (hl : Ents w v l) (hn : l.length ≤ 1000000) :
    Calls Try.prog 19 #[v, .string ⟨s.toArray⟩] w fun e w' => e = .returned (.tuple #[.int .i64 ((getE l s).getD 0), .bool (isAt l s)]) ∧ Below w.heap.size w w' := by
  obtain ⟨A, c, rfl, -⟩ := hl.shape
  exact (ref06_Find l s A c w hl hn).mono fun e w' ⟨h1, h2⟩ => ⟨h1, by rw [← h2]; exact Below.refl _ _⟩
theorem enter_b (v : Value) (l : List Ent) (s : List UInt8) (n : Int) (w : World) (hl : Ents w v l) (hlen : l.length ≤ 256) (hsrt : Srt l) (hs : s.length ≤ 140737488351232) (hn1 : -9223372036854775808 ≤ n) (hn2 : n ≤ 9223372036854775807) :
    Calls Try.prog 22 #[v, .string ⟨s.toArray⟩, .int .i64 n] w (RetEnt w (enterF l s n)) := by
  obtain ⟨A, c, rfl, -⟩ := hl.shape
  exact name_Enter l s n A c w hl hlen hsrt hs hn1 hn2
theorem renter_b (v : Value) (l : List Ent) (s : List UInt8) (n : Int) (w : World) (hl : Ents w v l) (hlen : l.length ≤ 256) (hsrt : Srt l) (hs : s.length ≤ 140737488351232) (hn1 : -9223372036854775808 ≤ n) (hn2 : n ≤ 9223372036854775807) :
    Calls Try.prog 23 #[v, .string ⟨s.toArray⟩, .int .i64 n] w (RetEnt w (enterF l s n)) := by
  obtain ⟨A, c, rfl, -⟩ := hl.shape
  exact ref06_Enter l s n A c w hl hlen hsrt hs hn1 hn2
theorem leave_b (v : Value) (l : List Ent) (s : List UInt8) (w : World) (hl : Ents w v l) (hlen : l.length ≤ 256) (hsrt : Srt l) :
    Calls Try.prog 24 #[v, .string ⟨s.toArray⟩] w (RetLv w (leaveF l s)) := by
  obtain ⟨A, c, rfl, -⟩ := hl.shape
  exact name_Leave l s A c w hl hlen hsrt
theorem rleave_b (v : Value) (l : List Ent) (s : List UInt8) (w : World) (hl : Ents w v l) (hlen : l.length ≤ 256) :
    Calls Try.prog 25 #[v, .string ⟨s.toArray⟩] w (RetLv w (leaveF l s)) := by
  obtain ⟨A, c, rfl, -⟩ := hl.shape
  exact ref06_Leave l s A c w hl hlen
theorem names_b (v : Value) (l : List Ent) (w : World) (hl : Ents w v l) (hlen : l.length ≤ 1000000) :
    Calls Try.prog 20 #[v] w fun e w' => ∃ u, e = .returned u ∧ Row w' u ((l.map (·.1)).map strV) ∧ Below w.heap.size w w' := by
  obtain ⟨A, c, rfl, -⟩ := hl.shape
  rw [List.map_map]
  exact name_Names A c l hlen w hl
theorem rnames_b (v : Value) (l : List Ent) (w : World) (hl : Ents w v l) (hlen : l.length ≤ 1000000) :
    Calls Try.prog 21 #[v] w fun e w' => ∃ u, e = .returned u ∧ Row w' u ((l.map (·.1)).map strV) ∧ Below w.heap.size w w' := by
  obtain ⟨A, c, rfl, -⟩ := hl.shape
  rw [List.map_map]
  exact ref06_Names l A c w hl hlen

theorem below_step {w a b : World} (h : Hid (Below w.heap.size w a)) (hb : Below a.heap.size a b) : Hid (Below w.heap.size w b) := Lib.hid (below_trans h.out hb h.out.size)
theorem ok_ins {l : List Ent} {s : List UInt8} {n : Int} (h : OkEnts l) (hs : s.length ≤ 140737488351232) (h1 : -9223372036854775808 ≤ n) (h2 : n ≤ 9223372036854775807) : OkEnts (insE l (s, n)) := fun x hx => by
  rcases (mem_ins l _ x).1 hx with rfl | hx
  · exact ⟨hs, h1, h2⟩
  · exact h x hx
end Go.Proofs.Ytjeejnjomgcplaa
