
/- Slices of ints in new memory: gathers. -/
import Derived.Test.YtknhfliefkkpfabAt
import Derived.Test.YtknhfliefkkpfabClone
