
/- Slices of ints in new memory: gathers. -/
import Derived.Test.YtacbciamehchjaaAt
import Derived.Test.YtacbciamehchjaaClone
