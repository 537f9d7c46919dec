/- index.Counts, Of and Word. -/
import Derived.Test.YtkcledkfgmdcgaaIndexOf
import Derived.Test.YtkcledkfgmdcgaaIndexWd
