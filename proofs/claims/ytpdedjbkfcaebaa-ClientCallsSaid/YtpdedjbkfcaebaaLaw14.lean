/- Rows of ten to fourteen elements. -/
import Derived.Test.YtpdedjbkfcaebaaLaw
namespace Copyhold
open Go
end Copyhold
