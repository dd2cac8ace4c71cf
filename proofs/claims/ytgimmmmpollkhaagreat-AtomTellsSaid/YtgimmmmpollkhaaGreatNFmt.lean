
/-
  strconv.FormatUint at base 10.
-/
import Derived.Test.YtgimmmmpollkhaaGreatNParse2
import Derived.Lib.AppendIntMem
import Derived.Lib.Hide
namespace Go.Proofs.YtgimmmmpollkhaaGreat

open Go.RowKit Go.Shelf Go.Sort Go.Lib

namespace Nt

def Pow10 (w : World) : Prop := Lib.TabIs Tryz.prog w "internal/strconv.uint64pow10" .u64 Lib.pow10Tab

end Nt

end Go.Proofs.YtgimmmmpollkhaaGreat
