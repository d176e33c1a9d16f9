import Derived.Test.YtcdggcdkjooohaaDoorWMl
namespace Go.Proofs.YtcdggcdkjooohaaDoor
open Go.RowKit Rec

end Go.Proofs.YtcdggcdkjooohaaDoor
