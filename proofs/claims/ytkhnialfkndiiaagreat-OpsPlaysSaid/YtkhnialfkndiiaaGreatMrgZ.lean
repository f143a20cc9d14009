import Derived.Test.YtkhnialfkndiiaaGreatMrgY
import Derived.Test.YtkhnialfkndiiaaGreatMrgS
set_option maxRecDepth 100000
set_option maxHeartbeats 8000000
set_option linter.unusedVariables false
set_option maxRecDepth 100000
namespace Go.Proofs.YtkhnialfkndiiaaGreat
open Go.RowKit Copyhold
attribute [local go_sem] piece
def putKb (L : List UInt8) (a : Nat) (t : List UInt8) (i : Nat) : List UInt8 := L.take a ++ t.take i ++ L.drop (a + i)
theorem putKb_len (L : List UInt8) (a : Nat) (t : List UInt8) (i : Nat) (ha : a ≤ L.length) (hi : i ≤ t.length) : (putKb L a t i).length = max L.length (a + i) := by
 unfold putKb
 simp
 omega
theorem putKb_set (L : List UInt8) (a : Nat) (t : List UInt8) (i : Nat) (ha : a ≤ L.length) (hi : i < t.length) (h : a + i < (putKb L a t i).length) : (putKb L a t i).set (a + i) t[i] = putKb L a t (i + 1) := by
 rw [putKb_len L a t i ha (by omega)] at h
 have hA : (L.take a ++ t.take i).length = a + i := by simp; omega
 unfold putKb
 rw [List.set_append_right _ _ (by omega), hA, Nat.sub_self, List.drop_eq_getElem_cons (by omega), List.set_cons_zero, List.take_succ_eq_append_getElem hi, Nat.add_assoc, List.append_assoc, List.append_assoc, List.append_assoc, List.singleton_append]
theorem putKb_app (L : List UInt8) (a : Nat) (t : List UInt8) (i : Nat) (ha : a ≤ L.length) (hi : i < t.length) (h : ¬ a + i < (putKb L a t i).length) : putKb L a t i ++ [t[i]] = putKb L a t (i + 1) := by
 rw [putKb_len L a t i ha (by omega)] at h
 unfold putKb
 rw [List.drop_eq_nil_of_le (by omega), List.drop_eq_nil_of_le (by omega), List.take_succ_eq_append_getElem hi]
 simp
theorem putKb_end (s : List UInt8) (a j : Nat) (t : List UInt8) (h : a ≤ s.length + j) (h' : j = 0 ∨ s.length + j ≤ a) : putKb (s ++ List.replicate j 0) a t t.length = putD s a t := by
 have hL : ∀ i, (s ++ List.replicate j (0 : UInt8))[i]? = if i < s.length + j then some (s.getD i 0) else none := by
  intro i
  rw [List.getElem?_append]
  by_cases h1 : i < s.length
  ·rw [if_pos h1, if_pos (by omega)]
   simp [List.getD, h1]
  ·rw [if_neg h1, List.getElem?_replicate]
   by_cases h2 : i < s.length + j
   ·rw [if_pos (by omega), if_pos h2]
    simp [List.getD, h1]
   ·rw [if_neg (by omega), if_neg h2]
 apply List.ext_getElem?
 intro i
 rw [dataSplit.get_putD]
 unfold putKb
 rw [List.append_assoc, List.getElem?_append, List.length_take, List.length_append, List.length_replicate, show min a (s.length + j) = a from by omega]
 by_cases hi : i < a
 ·rw [if_pos hi, List.getElem?_take, if_pos hi, hL, if_pos (by omega), if_pos (by omega), if_neg (by omega)]
 ·rw [if_neg hi, List.getElem?_append, List.length_take, Nat.min_self]
  by_cases h2 : i - a < t.length
  ·rw [if_pos h2, if_pos (by omega), if_pos (by omega), List.take_length]
   simp [List.getD, h2]
  ·rw [if_neg h2, List.getElem?_drop, show a + t.length + (i - a - t.length) = i from by omega, hL]
   by_cases h3 : i < s.length + j
   ·rw [if_pos h3, if_pos (by omega), if_neg (by omega)]
   ·rw [if_neg h3, if_neg (by omega)]
theorem ref09_Write_ok (s : List UInt8) (a : Nat) (t : List UInt8) (w : World) (hs : s.length ≤ 524288) (ht : t ≠ []) (h : a + t.length ≤ 4096) :
  Calls Tryz.prog 93 #[.string ⟨s.toArray⟩, .int .i64 a, .string ⟨t.toArray⟩] w fun e w' => e = .returned (.tuple #[.string ⟨(putD s a t).toArray⟩, .int .i64 0]) ∧ Below w.heap.size w w' := by
 have hte : t.isEmpty = false := by simpa using ht
 have htl : 0 < t.length := List.length_pos_iff.2 ht
 have hcv := Lib.run_convert_string_bytes (P := Tryz.prog) w 9 144 5 ⟨s.toArray⟩ Tryz.underlying9 Tryz.underlying144 Tryz.underlying5
 have hsz : (⟨s.toArray⟩ : ByteArray).size = s.length := by simp [ByteArray.size]
 rw [hsz] at hcv
 have HO := Lib.hid (Brow.made w s (by omega))
 have HB := Lib.hid (bytes_below w 5 ⟨s.toArray⟩)
 generalize Lib.bytesWorld w 5 ⟨s.toArray⟩ = W0 at *
 generalize grownCap w s.length 0 5 = cap at *
 clear ht hsz
 go_enter Tryz.func93, Tryz.ntmps93
 go_wp2_with fail
 go_loopw [8] (fun sb wr => ∃ (l : List UInt8) (j c : Nat) (A : Option Addr), sb = .slice A l.length c ∧ l = s ++ List.replicate j 0 ∧ (j = 0 ∨ s.length + j ≤ a) ∧ Brow wr w.heap.size sb l ∧ Below w.heap.size w wr) (fun sb _ => a - (match sb with | .slice _ n _ => n | _ => 0))
 case atStart => exact ⟨s, 0, cap, some ⟨w.heap.size, 0, none⟩, rfl, by simp, .inl rfl, HO.out, HB.out⟩
 case round =>
  obtain ⟨l, j, c, A, rfl, hl, hj, hown, hb⟩ := hrel
  have hlen : l.length = s.length + j := by rw [hl]; simp
  have hll : l.length ≤ 1048576 := by omega
  have HL := Lib.hid hl
  have HLEN := Lib.hid hlen
  have HOWN := Lib.hid hown
  clear hl hlen hown
  by_cases hlt : l.length < a
  ·obtain ⟨v', w', hrun, hown', hb'⟩ := HOWN.out.append 0 hll hb.size
   have hnext : l ++ [0] = s ++ List.replicate (j + 1) 0 := by rw [HL.out, List.append_assoc, List.replicate_succ']
   obtain ⟨A', c', rfl⟩ := hown'.shape
   rw [List.length_append, List.length_singleton] at hrun hown'
   have HN := Lib.hid hnext
   have HO' := Lib.hid hown'
   have HB' := Lib.hid (hb.trans hb')
   clear hnext hown' hb'
   have hrun : Sem.run Tryz.prog (Builtin.append_ #[144, 144] 144 #[.slice A l.length c, .slice (some ⟨wr.heap.size, 0, none⟩) 1 1]) (wr.alloc (.cells #[.int .u8 0] 5)) = .ok (.slice A' (l.length + 1) c') w' := hrun
   go_wp2_with (at_builtin; refine wpList_append_run rfl _ _ _ rfl _ _ _ _ rfl rfl hrun ?_)
   go_roundw
   case rel => exact ⟨l ++ [0], j + 1, c', A', by rw [List.length_append]; rfl, HN.out, .inr (by have := HLEN.out; omega), HO'.out, HB'.out⟩
   case measure => simp; omega
  ·have hal : a ≤ l.length := by omega
   have hend : putKb l a t t.length = putD s a t := by rw [HL.out]; exact putKb_end s a j t (by have := HLEN.out; omega) hj
   have HEND := Lib.hid hend
   clear hend
   go_wp2_with fail
   go_loopw [8, 9] (fun sb si wr => ∃ (i c : Nat) (L : List UInt8) (A : Option Addr), si = .int .i64 i ∧ sb = .slice A L.length c ∧ L = putKb l a t i ∧ i ≤ t.length ∧ Brow wr w.heap.size sb L ∧ Below w.heap.size w wr) (fun _ si _ => t.length - (intOf si).toNat)
   case atStart => exact ⟨0, c, l, A, rfl, rfl, by simp [putKb], Nat.zero_le _, HOWN.out, hb⟩
   case round =>
    obtain ⟨i, c2, L, A2, rfl, rfl, hL, hi, hown2, hb2⟩ := hrel
    have hLl : L.length = max l.length (a + i) := by rw [hL]; exact putKb_len l a t i hal hi
    have hl2 : l.length ≤ 528384 := by have := HLEN.out; omega
    have hLb : L.length ≤ 1048576 := by omega
    have HL2 := Lib.hid hL
    have HLL := Lib.hid hLl
    have HO2 := Lib.hid hown2
    clear hL hLl hown2
    by_cases hit : i < t.length
    ·have hx : ∃ x, x = t[i] := ⟨_, rfl⟩
     obtain ⟨x, hx⟩ := hx
     have hii : (i : Int) < (t.length : Int) := by omega
     by_cases hin : a + i < L.length
     ·have hnext : L.set (a + i) x = putKb l a t (i + 1) := by rw [HL2.out, hx]; exact putKb_set l a t i hal hit (by rw [← HL2.out]; exact hin)
      have hsh : ∃ g, A2 = some ⟨g, 0, none⟩ := by
       rcases HO2.out with ⟨he, hh⟩ | ⟨g, cap', he, _⟩
       ·rw [hh] at hin; simp at hin
       ·simp only [Value.slice.injEq] at he; exact ⟨g, he.1⟩
      obtain ⟨g, rfl⟩ := hsh
      obtain ⟨hbg, ⟨u, hcu⟩, hfu, hst⟩ := HO2.out.store (a + i) x hin
      have HN := Lib.hid hnext
      have HST := Lib.hid hst
      have HB3 := Lib.hid (hb2.setCell (p := ⟨g, a + i, none⟩) hbg (byteV x))
      have hain : (a : Int) + i < (L.length : Int) := by omega
      subst hx
      clear hnext hst
      go_wp2_with fail
      go_roundw
      case rel => exact ⟨i + 1, c2, L.set (a + i) t[i], _, by go_num, by rw [List.length_set], HN.out, by omega, HST.out, HB3.out⟩
      case measure => simp [intOf]; omega
     ·obtain ⟨v', w', hrun, hown', hb'⟩ := HO2.out.append x hLb hb2.size
      have hnext : L ++ [x] = putKb l a t (i + 1) := by rw [HL2.out, hx]; exact putKb_app l a t i hal hit (by rw [← HL2.out]; exact hin)
      obtain ⟨A', c', rfl⟩ := hown'.shape
      rw [List.length_append, List.length_singleton] at hrun hown'
      have HN := Lib.hid hnext
      have HO' := Lib.hid hown'
      have HB' := Lib.hid (hb2.trans hb')
      have hain : ¬ (a : Int) + i < (L.length : Int) := by omega
      clear hnext hown' hb'
      rw [hx] at hrun
      unfold byteV at hrun
      go_wp2_with (at_builtin; refine wpList_append_run rfl _ _ _ rfl _ _ _ _ rfl rfl hrun ?_)
      go_roundw
      case rel => exact ⟨i + 1, c', L ++ [x], A', by go_num, by rw [List.length_append]; rfl, HN.out, by omega, HO'.out, HB'.out⟩
      case measure => simp [intOf]; omega
    ·have hfin : L = putD s a t := by rw [HL2.out, show i = t.length from by omega, HEND.out]
     have hbk := HO2.out.back
     have HF := Lib.hid hfin
     clear hfin
     go_wp2_with fail
     go_ret2
     exact ⟨by rw [← HF.out]; rfl, hb2⟩
theorem ref09_Write (s : List UInt8) (a : Int) (t : List UInt8) (w : World) (hs : s.length ≤ 524288) (ht : t.length ≤ 524288) (h1 : -9223372036854775808 ≤ a) (h2 : a ≤ 9223372036854775807) :
  Calls Tryz.prog 93 #[.string ⟨s.toArray⟩, .int .i64 a, .string ⟨t.toArray⟩] w fun e w' => e = .returned (.tuple #[.string ⟨(writeD s a t).1.toArray⟩, .int .i64 (writeD s a t).2]) ∧ Below w.heap.size w w' := by
 rcases (show a < 0 ∨ 0 ≤ a ∧ 1099511627776 - (t.length : Int) < a ∨ 0 ≤ a ∧ a ≤ 1099511627776 - (t.length : Int) ∧ 4096 < a + t.length ∨ 0 ≤ a ∧ a + t.length ≤ 4096 from by omega) with h | ⟨h, h'⟩ | ⟨h, h', h''⟩ | ⟨h, h'⟩
 ·have hr : refusedD a t.length = 1 := by unfold refusedD; rw [if_neg (by omega)]
  have hc : writeD s a t = (s, 1) := by unfold writeD; rw [hr]; rfl
  rw [hc]
  clear hr hc
  go_enter Tryz.func93, Tryz.ntmps93
  go_wp2_with fail
  go_ret2
  exact ⟨rfl, Below.refl _ _⟩
 ·have hr : refusedD a t.length = 1 := by unfold refusedD; rw [if_neg (by omega)]
  have hc : writeD s a t = (s, 1) := by unfold writeD; rw [hr]; rfl
  rw [hc]
  clear hr hc
  go_enter Tryz.func93, Tryz.ntmps93
  go_wp2_with fail
  go_ret2
  exact ⟨rfl, Below.refl _ _⟩
 ·have hr : refusedD a t.length = 5 := by unfold refusedD; rw [if_pos (by omega), if_pos (by omega)]
  have hc : writeD s a t = (s, 5) := by unfold writeD; rw [hr]; rfl
  rw [hc]
  clear hr hc
  go_enter Tryz.func93, Tryz.ntmps93
  go_wp2_with fail
  go_ret2
  exact ⟨rfl, Below.refl _ _⟩
 ·obtain ⟨a, rfl⟩ := Int.eq_ofNat_of_zero_le h
  rw [dataSplit.writeD_ok s a t (by omega)]
  by_cases h0 : t = []
  ·subst h0
   rw [if_pos rfl]
   simp only
   have hlen : (a : Int) ≤ 4096 := by simpa using h'
   clear h'
   go_enter Tryz.func93, Tryz.ntmps93
   go_wp2_with fail
   go_ret2
   exact ⟨rfl, Below.refl _ _⟩
  ·rw [if_neg h0]
   exact ref09_Write_ok s a t w hs h0 (by omega)
end Go.Proofs.YtkhnialfkndiiaaGreat

set_option linter.unusedSimpArgs false
namespace Go.Proofs.YtkhnialfkndiiaaGreat
open Go Go.RowKit Copyhold
theorem ra3 {D : Nat → Prop} {w : World} {x y z : AV} {vs : Array Value} (h : RaAll D w [x, y, z] vs) : ∃ u v t, vs = #[u, v, t] ∧ Ra D w x u ∧ Ra D w y v ∧ Ra D w z t := by
 obtain ⟨h1, h2⟩ := h
 match vs, h1 with
 | ⟨[u, v, t]⟩, _ => exact ⟨u, v, t, rfl, h2 0 x u rfl rfl, h2 1 y v rfl rfl, h2 2 z t rfl rfl⟩
theorem dread_spec (s : Txt) (a b : Int) (hs : s.length ≤ 1000000) (ha : I64 a) (hb : I64 b) : FSpec Tryz.prog 110 [aS s, aI a, aI b] (.tup [aS (readD s a b).1, aI (readD s a b).2]) := fspec_plain (tup2_ra _ _) fun D w vs h => by
 obtain ⟨u, v, t, rfl, hu, hv, ht⟩ := ra3 h
 cases hu; cases hv; cases ht
 exact (data_Read s a b w (by omega) ha.1 ha.2 hb.1 hb.2).mono fun e w' ⟨g1, g2⟩ => ⟨g1, g2 ▸ Below.refl _ _⟩
theorem dwrite_spec (s : Txt) (a : Int) (t : Txt) (hs : s.length ≤ 1000000) (ha : I64 a) (ht : t.length ≤ 1000000) : FSpec Tryz.prog 111 [aS s, aI a, aS t] (.tup [aS (writeD s a t).1, aI (writeD s a t).2]) := fspec_plain (tup2_ra _ _) fun D w vs h => by
 obtain ⟨u, v, x, rfl, hu, hv, hx⟩ := ra3 h
 cases hu; cases hv; cases hx
 exact data_Write s a t w (by omega) (by omega) ha.1 ha.2
theorem dcut_spec (s : Txt) (n : Int) (hs : s.length ≤ 1000000) (hn : I64 n) : FSpec Tryz.prog 112 [aS s, aI n] (.tup [aS (cutD s n).1, aI (cutD s n).2]) := fspec_plain (tup2_ra _ _) fun D w vs h => by
 obtain ⟨u, v, rfl, hu, hv⟩ := RaAll.two h
 cases hu; cases hv
 exact data_Cut s n w (by omega) hn.1 hn.2
theorem dnames_spec (l : List Ent) (hl : l.length ≤ 1000000) : FSpec Tryz.prog 89 [.sl 2 false (l.map entA)] (.sl 1 false ((l.map Ent.name).map txA)) := by
 intro D w vs hD hv
 obtain ⟨u, rfl, hu⟩ := RaAll.one hv
 obtain ⟨A, c, rfl, he⟩ := ents_of_ra hu
 refine (callsIn_wide.1 (Names_in 3 (Nat.le_refl _) A c (lI l) (by rw [lI_len]; exact hl) w he)).mono ?_
 rintro e w' ⟨v, rfl, hown, hb⟩
 have hrow := Row.of_owns hown
 have e1 : (lI l).map (fun x => strV x.1) = (l.map Ent.name).map strV := by simp [lI]
 rw [e1] at hrow
 refine ⟨v, fun b => D b ∨ (w.heap.size ≤ b ∧ b < w'.heap.size), rfl, hb, fun b h => .inl h, fun b h => ?_, texts_ra hrow (at_both (At.of_owns hown) hrow.lies fun b h1 h2 => .inr ⟨h1, h2⟩)⟩
 rcases h with h | ⟨h1, h2⟩
 ·exact ⟨Nat.lt_of_lt_of_le (hD b h) hb.size, .inl h⟩
 ·exact ⟨h2, .inr h1⟩
def sizeN (n : Nod) : Int := if n.kind = 2 then (n.l.length : Int) else (n.text.length : Int)
structure Cal where
 kind : Int
 ino : Int
 to : Int
 at_ : Int
 many : Int
 name : Txt
 name2 : Txt
 text : Txt
structure Rep where
 e : Int
 a : Int
 b : Int
 n : Int
 text : Txt
 names : List Txt
 deriving DecidableEq
def calA (c : Cal) : List AV := [aI c.kind, aI c.ino, aI c.to, aI c.at_, aI c.many, aS c.name, aS c.name2, aS c.text]
def repA (r : Rep) : List AV := [aI r.e, aI r.a, aI r.b, aI r.n, aS r.text, .sl 1 false (r.names.map txA)]
def errR (e : Int) : Rep := ⟨e, 0, 0, 0, [], []⟩
structure OkCal (c : Cal) : Prop where
 kind : I64 c.kind
 ino : I64 c.ino
 to : I64 c.to
 at_ : I64 c.at_
 many : I64 c.many
 name : c.name.length ≤ 1000000
 name2 : c.name2.length ≤ 1000000
 text : c.text.length ≤ 1000000
theorem size_spec (n : Nod) : FSpec Tryz.prog 109 [.agg (nodA n)] (aI (sizeN n)) := by
 exact spec_vc (F := Tryz.f109) 400 (
 .new fun b1 => .r 1 <| .run 3 [b1 = b1] rt1 <|
 .br 5 (n.kind == 2) (fun q1 => have p1 := beqT q1; .run 3 [b1 = b1] rt1 <|
 .val 8 (show (aI ((n.l.map entA).length : Int) : AV) = aI (n.l.length : Int) from by rw [List.length_map]) <| .r 1 <| .fin (x := aI (n.l.length : Int)) (r := aI (sizeN n)) [] trivial (by exact Sub.of_eq (congrArg aI (by unfold sizeN; simp_all))))
 <| fun q1 => have p1 := beqF q1; .run 4 [b1 = b1] rt1 <|
 .fin (x := aI ((n.text).length : Int)) (r := aI (sizeN n)) [] trivial (by exact Sub.of_eq (congrArg aI (by unfold sizeN; simp_all)))) Tryz.func109 rfl (by kernel_rfl) (by kernel_rfl)
theorem r9read_spec (s : Txt) (a b : Int) (hs : s.length ≤ 1000000) (ha : I64 a) (hb : I64 b) : FSpec Tryz.prog 91 [aS s, aI a, aI b] (.tup [aS (readD s a b).1, aI (readD s a b).2]) := fspec_plain (tup2_ra _ _) fun D w vs h => by
 obtain ⟨u, v, t, rfl, hu, hv, ht⟩ := ra3 h
 cases hu; cases hv; cases ht
 exact ref09_Read s a b w (by omega) ha.1 ha.2 hb.1 hb.2
theorem r9write_spec (s : Txt) (a : Int) (t : Txt) (hs : s.length ≤ 500000) (ha : I64 a) (ht : t.length ≤ 500000) : FSpec Tryz.prog 93 [aS s, aI a, aS t] (.tup [aS (writeD s a t).1, aI (writeD s a t).2]) := fspec_plain (tup2_ra _ _) fun D w vs h => by
 obtain ⟨u, v, x, rfl, hu, hv, hx⟩ := ra3 h
 cases hu; cases hv; cases hx
 exact ref09_Write s a t w (by omega) (by omega) ha.1 ha.2
theorem r9cut_spec (s : Txt) (n : Int) (hs : s.length ≤ 1000000) (hn : I64 n) : FSpec Tryz.prog 92 [aS s, aI n] (.tup [aS (cutD s n).1, aI (cutD s n).2]) := fspec_plain (tup2_ra _ _) fun D w vs h => by
 obtain ⟨u, v, rfl, hu, hv⟩ := RaAll.two h
 cases hu; cases hv
 exact ref09_Cut s n w (by omega) hn.1 hn.2
theorem rsize_spec (n : Nod) : FSpec Tryz.prog 40 [.agg (nodA n)] (aI (sizeN n)) := by
 exact spec_vc (F := Tryz.f40) 400 (
 .new fun b1 => .r 1 <| .run 3 [b1 = b1] rt1 <|
 .br 5 (n.kind == 2) (fun q1 => have p1 := beqT q1; .run 3 [b1 = b1] rt1 <|
 .val 8 (show (aI ((n.l.map entA).length : Int) : AV) = aI (n.l.length : Int) from by rw [List.length_map]) <| .r 1 <| .fin (x := aI (n.l.length : Int)) (r := aI (sizeN n)) [] trivial (by exact Sub.of_eq (congrArg aI (by unfold sizeN; simp_all))))
 <| fun q1 => have p1 := beqF q1; .run 4 [b1 = b1] rt1 <|
 .fin (x := aI ((n.text).length : Int)) (r := aI (sizeN n)) [] trivial (by exact Sub.of_eq (congrArg aI (by unfold sizeN; simp_all)))) Tryz.func40 rfl (by kernel_rfl) (by kernel_rfl)
end Go.Proofs.YtkhnialfkndiiaaGreat
