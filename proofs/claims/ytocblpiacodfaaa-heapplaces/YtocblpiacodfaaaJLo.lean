/- What HeapPlaces' last text imports. -/
import Derived.Test.YtocblpiacodfaaaJL
import Derived.Test.YtocblpiacodfaaaJOp
