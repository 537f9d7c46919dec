/- The contracts of token.End, token.Put and token.Get, in one. -/
import Derived.Test.YtdhbbknjnbdplaaDoorTokenEnd
import Derived.Test.YtdhbbknjnbdplaaDoorTokenPutC
import Derived.Test.YtdhbbknjnbdplaaDoorTokenGet
