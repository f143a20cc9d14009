/- octet.takeCount, octet.TakeText: for every text and bound they answer as the document says; old memory is as it was. -/
import Derived.Test.YtpojhcpkmpbflaaOctTakeNum
namespace Go.Proofs.Ytpojhcpkmpbflaa
open Go.RowKit Copyhold

set_option maxHeartbeats 1000000 in
theorem octet_takeCount (l : List UInt8) (most : Int) (w : World) (hl : l.length ≤ 140737488355328) (hm1 : -9223372036854775808 ≤ most) (hm2 : most ≤ 9223372036854775807) :
    Calls Try.prog 83 #[.string ⟨l.toArray⟩, .int .i64 most] w fun e w' => e = .returned (.tuple #[.int .u64 (takeCount l most).1, .string ⟨(takeCount l most).2.1.toArray⟩, .int .i64 (takeCount l most).2.2]) ∧ Below w.heap.size w w' := by
  have hbd := takeNum_bd l
  obtain ⟨n, hn⟩ : ∃ n : Int, n = ((takeNum l).1 : Int) := ⟨_, rfl⟩
  have hn0 : 0 ≤ n := by omega
  have hn1 : n ≤ 18446744073709551615 := by omega
  have HT := Lib.hid (show takeCount l most = if (takeNum l).2.2 ≠ 0 then (0, [], (takeNum l).2.2) else if most < 0 ∨ most < n then (0, [], 5) else takeNum l from by rw [hn]; rfl)
  clear hbd
  have HN := Lib.hid hn; clear hn
  go_enter Try.func83, Try.ntmps83
  go_wp2_with fail
  refine (octet_TakeNum l _ hl).mono ?_
  rintro e w1 ⟨rfl, hb1⟩
  rw [← HN.out]
  by_cases he : (takeNum l).2.2 = 0
  · rw [he]
    by_cases hc : most < 0 ∨ most < n
    · have hfin : takeCount l most = (0, [], 5) := by rw [HT.out, if_neg (by simp [he]), if_pos hc]
      have HF := Lib.hid hfin; clear hfin he
      rcases (show most < 0 ∨ 0 ≤ most ∧ most < n from by omega) with h | ⟨h, h'⟩
      all_goals
        clear hc
        go_wp2_with fail
        go_ret3
        exact ⟨by rw [HF.out]; rfl, hb1⟩
    · have hfin : takeCount l most = takeNum l := by rw [HT.out, if_neg (by simp [he]), if_neg hc]
      have h1 : 0 ≤ most := by omega
      have h2 : n ≤ most := by omega
      have HF := Lib.hid hfin; clear hfin hc
      have HE := Lib.hid he; clear he
      go_wp2_with fail
      go_ret3
      exact ⟨by rw [HF.out, HE.out]; exact ret3 (congrArg _ HN.out) rfl rfl, hb1⟩
  · have hfin : takeCount l most = (0, [], (takeNum l).2.2) := by rw [HT.out, if_pos he]
    have HF := Lib.hid hfin; clear hfin
    have hne : ((takeNum l).2.2 == 0) = false := by simpa using he
    have hne2 : ((takeNum l).2.2 != 0) = true := by simpa using he
    clear he
    go_wp2_with fail
    go_ret3
    exact ⟨by rw [HF.out]; rfl, hb1⟩

set_option maxHeartbeats 1000000 in
theorem octet_TakeText (l : List UInt8) (most : Int) (w : World) (hl : l.length ≤ 140737488355328) (hm1 : -9223372036854775808 ≤ most) (hm2 : most ≤ 9223372036854775807) :
    Calls Try.prog 74 #[.string ⟨l.toArray⟩, .int .i64 most] w fun e w' => e = .returned (.tuple #[.string ⟨(takeText l most).1.toArray⟩, .string ⟨(takeText l most).2.1.toArray⟩, .int .i64 (takeText l most).2.2]) ∧ Below w.heap.size w w' := by
  have hbd := takeCount_bd l most
  have HT := Lib.hid (show takeText l most = if (takeCount l most).2.2 ≠ 0 then ([], [], (takeCount l most).2.2)
  else if (takeCount l most).2.1.length < (takeCount l most).1 then ([], [], 2)
  else ((takeCount l most).2.1.take (takeCount l most).1, (takeCount l most).2.1.drop (takeCount l most).1, 0) from rfl)
  have hr : (takeCount l most).2.1.length ≤ 140737488355328 := by omega
  obtain ⟨hn1, _⟩ := hbd
  have HN := Lib.hid hn1; clear hn1
  go_enter Try.func74, Try.ntmps74
  go_wp2_with fail
  refine (octet_takeCount l most _ hl hm1 hm2).mono ?_
  rintro e w1 ⟨rfl, hb1⟩
  generalize hx : takeCount l most = x at *
  clear hx
  obtain ⟨n, r, e⟩ := x
  simp only at hr HN HT ⊢
  by_cases he : e = 0
  · subst he
    by_cases hc : r.length < n
    · have hfin : takeText l most = ([], [], 2) := by rw [HT.out, if_neg (by simp), if_pos hc]
      have HF := Lib.hid hfin; clear hfin
      have hc' : (r.length : Int) < (n : Int) := by omega
      clear hc
      obtain ⟨z, hz⟩ : ∃ z : Int, z = (n : Int) := ⟨_, rfl⟩
      rw [← hz] at hc' ⊢
      have hz1 : z ≤ 18446744073709551615 := by have := HN.out; omega
      clear hz HT HN
      go_wp2_with fail
      go_ret3
      exact ⟨by rw [HF.out]; rfl, hb1⟩
    · have hfin : takeText l most = (r.take n, r.drop n, 0) := by rw [HT.out, if_neg (by simp), if_neg hc]
      have HF := Lib.hid hfin; clear hfin
      have hc' : n ≤ r.length := by omega
      clear hc HT HN
      go_wp2_with fail
      go_quiet (fail)
      go_wp2_with fail
      go_ret3
      refine ⟨?_, ?_⟩
      · rw [HF.out]
        exact ret3 (congrArg Value.string (piece r 0 n)) (congrArg Value.string (piece_end r n)) rfl
      · exact below_drewN hb1 _
  · have hfin : takeText l most = ([], [], e) := by rw [HT.out, if_pos he]
    have HF := Lib.hid hfin; clear hfin
    have hne : (e == 0) = false := by simpa using he
    have hne2 : (e != 0) = true := by simpa using he
    clear he HT HN
    go_wp2_with fail
    go_ret3
    exact ⟨by rw [HF.out]; rfl, hb1⟩
end Go.Proofs.Ytpojhcpkmpbflaa
