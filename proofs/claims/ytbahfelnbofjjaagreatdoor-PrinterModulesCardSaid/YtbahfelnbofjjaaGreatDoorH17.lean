/- A part. -/
import Derived.Test.YtbahfelnbofjjaaGreatDoorH16
set_option maxRecDepth 100000
set_option maxHeartbeats 16000000
namespace Go.Proofs.YtbahfelnbofjjaaGreatDoor
namespace ch
open Go.RowKit dec
end ch
end Go.Proofs.YtbahfelnbofjjaaGreatDoor
