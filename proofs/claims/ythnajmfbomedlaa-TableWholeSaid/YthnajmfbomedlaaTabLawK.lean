/- Layer 14's contracts for the laws, together. -/
import Derived.Test.YthnajmfbomedlaaTabSameR
namespace Go.Proofs.Ythnajmfbomedlaa
end Go.Proofs.Ythnajmfbomedlaa
