/- The law StoreSince over data. -/
import Derived.Test.YtibcmgmlklehdaaStoC
set_option linter.unusedVariables false
set_option linter.unusedSimpArgs false
namespace Go.Proofs.Ytibcmgmlklehdaa
open Go Go.RowKit Copyhold
theorem viewC_ino {s : Sto} (hp : storeP s) {c : Chn} (hc : c ∈ s.l) {st : Int} {n : Nod} (h : viewC st c = some n) : n.ino = c.ino := by
  obtain ⟨k, hk⟩ := List.getElem?_of_mem hc
  have hch := (hp.2.2.2.at hk).1
  unfold viewC at h
  split at h
  · rename_i v hv
    split at h
    · cases h
    · rename_i hg
      obtain rfl := Option.some.inj h
      obtain ⟨j, hj⟩ := List.getElem?_of_mem (atD_mem hv)
      exact ((hch.2.2 j v hj).2 (by simpa using hg)).2
  · cases h
end Go.Proofs.Ytibcmgmlklehdaa
