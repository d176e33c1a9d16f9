import Derived.Shelf.SlIterI.Nil
import Derived.Shelf.SortM.Plain
import Derived.Shelf.SortM.SortNone
import Derived.Ground.GgzProg
import Derived.Ground.SlgmProg
import Derived.Test.YtdheojhfgeabhaaDoorProg
import Derived.Test.YtdheojhfgeabhaaDoorTxR
import Derived.Test.YtdheojhfgeabhaaDoorKWLa
namespace Go.Proofs.YtdheojhfgeabhaaDoor
open Go.Shelf
end Go.Proofs.YtdheojhfgeabhaaDoor


namespace Go.Proofs.YtdheojhfgeabhaaDoor
open Go.RowKit Go.Maps Go.Sort Go.Shelf Rec

end Go.Proofs.YtdheojhfgeabhaaDoor
