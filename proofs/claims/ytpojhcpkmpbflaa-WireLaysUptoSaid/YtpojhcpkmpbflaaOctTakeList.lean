/- octet.TakeList: for every text of at most 2^31 bytes and bounds it answers as the document says: the texts in new memory, the rest, the error; old memory is as it was. -/
import Derived.Test.YtpojhcpkmpbflaaOctTakeText
import Derived.Test.YtpojhcpkmpbflaaOctList
namespace Go.Proofs.Ytpojhcpkmpbflaa
open Go.RowKit Copyhold

/-- three results, the first one texts of the call's own -/
def RetTexts (w : World) (x : List (List UInt8) × List UInt8 × Int) (e : Ending) (w' : World) : Prop :=
  ∃ v, e = .returned (.tuple #[v, .string ⟨x.2.1.toArray⟩, .int .i64 x.2.2]) ∧ w'.ownsRow w.heap.size 9 1 v x.1.length (x.1.map strV) ∧ Below w.heap.size w w'

def TlRel (w : World) (long n : Int) (r0 : List UInt8) (k : Nat) (acc : List (List UInt8)) (r : List UInt8) (v : Value) (wr : World) : Prop :=
  acc.length = k ∧ (k : Int) ≤ n ∧ r.length + k ≤ r0.length ∧ takeTexts long (n.toNat - k) acc r = takeTexts long n.toNat [] r0 ∧
  wr.ownsRow w.heap.size 9 1 v k (acc.map strV) ∧ Below w.heap.size w wr

set_option maxHeartbeats 2000000 in
theorem octet_TakeList (l : List UInt8) (most long : Int) (w : World) (hl : l.length ≤ 2147483648) (hm1 : -9223372036854775808 ≤ most) (hm2 : most ≤ 9223372036854775807) (hg1 : -9223372036854775808 ≤ long) (hg2 : long ≤ 9223372036854775807) :
    Calls Try.prog 79 #[.string ⟨l.toArray⟩, .int .i64 most, .int .i64 long] w (RetTexts w (takeList l most long)) := by
  obtain ⟨i0, hi, hz0, hz1, hz2⟩ := info_parts info_string
  have hbd := takeCount_bd l most
  have HT := Lib.hid (show takeList l most long = if (takeCount l most).2.2 ≠ 0 then ([], [], (takeCount l most).2.2) else takeTexts long (takeCount l most).1 [] (takeCount l most).2.1 from rfl)
  have hr : (takeCount l most).2.1.length ≤ 2147483648 := by omega
  obtain ⟨hn1, _⟩ := hbd
  have HN := Lib.hid hn1; clear hn1
  go_enter Try.func79, Try.ntmps79
  go_wp2_with fail
  refine (octet_takeCount l most _ (by omega) hm1 hm2).mono ?_
  rintro e w1 ⟨rfl, hb1⟩
  generalize hx : takeCount l most = x at *
  clear hx
  obtain ⟨n, r0, e⟩ := x
  simp only at hr HN HT ⊢
  have hs1 := hb1.size
  by_cases he : e = 0
  · subst he
    have hfin : takeList l most long = takeTexts long n [] r0 := by rw [HT.out, if_neg (by simp)]
    obtain ⟨z, hz⟩ : ∃ z : Int, z = (n : Int) := ⟨_, rfl⟩
    have hzn : n = z.toNat := by omega
    rw [← hz]
    rw [hzn] at hfin
    have hz0' : 0 ≤ z := by omega
    have hz1' : z ≤ 18446744073709551615 := by have := HN.out; omega
    have HF := Lib.hid hfin; clear hfin hz hzn HT HN
    go_wp2_with fail
    go_loopw [10, 11, 12, 25] (fun sr se sv si wr => ∃ (k : Nat) (acc : List (List UInt8)) (r : List UInt8), sr = .string ⟨r.toArray⟩ ∧ se = .int .i64 0 ∧ si = .int .u64 k ∧ TlRel w long z r0 k acc r sv wr) (fun _ _ _ si _ => (z - intOf si).toNat)
    case atStart => exact ⟨0, [], r0, rfl, rfl, rfl, rfl, hz0', Nat.le_refl _, rfl, World.ownsRow_nil _ _ _ _, hb1⟩
    case round =>
      obtain ⟨k, acc, r, rfl, rfl, rfl, hak, hkz, hrl, htt, hown, hb⟩ := hrel
      have hsz := hb.size
      have HTT := Lib.hid htt; clear htt
      have HAK := Lib.hid hak; clear hak
      by_cases hlt : (k : Int) < z
      · have htb := takeText_bd r long
        have htr := takeText_rest r long
        have hunf : takeTexts long (z.toNat - k) acc r = if (takeText r long).2.2 ≠ 0 then ([], [], (takeText r long).2.2) else takeTexts long (z.toNat - (k + 1)) (acc ++ [(takeText r long).1]) (takeText r long).2.1 := by
          rw [show z.toNat - k = (z.toNat - (k + 1)) + 1 from by omega]; rfl
        have HU := Lib.hid hunf
        have HR := Lib.hid htr
        clear hunf htr
        go_wp2_with fail
        refine (octet_TakeText r long _ (by omega) hg1 hg2).mono ?_
        rintro e w2 ⟨rfl, hb2⟩
        have hs2 := hb2.size
        generalize hx : takeText r long = x at *
        clear hx
        obtain ⟨t, r', e⟩ := x
        simp only at htb HU HR ⊢
        obtain ⟨_, hr', _, _⟩ := htb
        by_cases he : e = 0
        · subst he
          have hstep : takeTexts long (z.toNat - (k + 1)) (acc ++ [t]) r' = takeTexts long z.toNat [] r0 := by rw [← HTT.out, HU.out, if_neg (by simp)]
          have HS := Lib.hid hstep
          have hrr : r'.length + 1 ≤ r.length := HR.out rfl
          have hown2 := owns_below hown hb2
          clear hstep HU HR
          go_wp2_with (at_builtin; refine wpList_append_own _ rfl _ _ 27 rfl w.heap.size 9 i0 (.string ByteArray.empty) 1 16 Try.underlying27 hi hz0 hz1 hz2 rfl (by decide) _ _ _ rfl (hown2.alloc _) ⟨w2.heap.size, 0, none⟩ 1 1 [.string ⟨t.toArray⟩] rfl rfl (cell_one_new _ _ _) (fun x hx => by simp at hx; subst hx; rfl) (by unfold maxLen; omega) (by omega) (by simp; omega) ?_; intro v' w3 hown' hgrow3 hnil3; clear hnil3)
          go_roundw
          case rel => exact ⟨k + 1, acc ++ [t], r', rfl, rfl, by go_num, by rw [List.length_append, HAK.out]; rfl, by omega, by omega, HS.out, by rw [List.map_append]; exact hown', ((hb.trans (hb2.mono hsz)).alloc (by omega) _).grown hgrow3 (by simp; omega) (fun q hq => (hown.lt q hq).1)⟩
          case measure => simp [intOf]; omega
        · have hfin : takeList l most long = ([], [], e) := by rw [HF.out, ← HTT.out, HU.out, if_pos he]
          have HFF := Lib.hid hfin
          have hne : (e == 0) = false := by simpa using he
          have hne2 : (e != 0) = true := by simpa using he
          clear hfin he HU HR
          go_wp2_with fail
          go_ret3
          rw [HFF.out]
          exact ⟨_, rfl, World.ownsRow_nil _ _ _ _, hb.trans (hb2.mono hsz)⟩
      · have hkz' : (k : Int) = z := by omega
        have hfin : takeList l most long = (acc, r, 0) := by
          rw [HF.out, ← HTT.out, show z.toNat - k = 0 from by omega]; rfl
        have HFF := Lib.hid hfin
        clear hfin hkz'
        go_wp2_with fail
        go_ret3
        rw [HFF.out]
        exact ⟨_, rfl, by rw [HAK.out]; exact hown, hb⟩
  · have hfin : takeList l most long = ([], [], e) := by rw [HT.out, if_pos he]
    have HF := Lib.hid hfin; clear hfin
    have hne : (e == 0) = false := by simpa using he
    have hne2 : (e != 0) = true := by simpa using he
    clear he HT HN
    go_wp2_with fail
    go_ret3
    rw [HF.out]
    exact ⟨_, rfl, World.ownsRow_nil _ _ _ _, hb1⟩
end Go.Proofs.Ytpojhcpkmpbflaa
