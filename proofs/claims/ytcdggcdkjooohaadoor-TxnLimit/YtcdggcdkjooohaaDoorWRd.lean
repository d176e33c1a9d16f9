import Derived.Test.YtcdggcdkjooohaaDoorWSt
import Derived.Defers
import Derived.Recover
namespace Go.Proofs.YtcdggcdkjooohaaDoor
open Go.RowKit Rec

/-- what is given up with -/
abbrev gaveV (e : Int) : Value := .iface 28 (.int .i64 e)
abbrev gave (e : Int) : Ending := .panicked [{ v := gaveV e, recovered := false }]
end Go.Proofs.YtcdggcdkjooohaaDoor
