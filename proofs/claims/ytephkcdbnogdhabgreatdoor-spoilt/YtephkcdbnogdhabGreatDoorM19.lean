import Derived.Test.YtephkcdbnogdhabGreatDoorM17
set_option linter.unusedVariables false
set_option maxHeartbeats 40000000
set_option maxRecDepth 10000
namespace Go.Proofs.YtephkcdbnogdhabGreatDoor
namespace lI
open Go.RowKit Rf
end lI
end Go.Proofs.YtephkcdbnogdhabGreatDoor
