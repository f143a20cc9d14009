/- A whole struct stored into a box, in a walk: one step of the world. Over any program. -/
import Derived.Test.YtgcjfhgkkgocpaaTaking
namespace Copyhold
open Go Go.RowKit
theorem TBox.setRow {w : World} {B : Nat} {T : TypeId} {cur : Array Value} (h : TBox w B T cur) (cs : Array Value) : TBox (w.setRow B cs) B T cs := setRow_heap w B cur cs T (0, 0) h
end Copyhold
