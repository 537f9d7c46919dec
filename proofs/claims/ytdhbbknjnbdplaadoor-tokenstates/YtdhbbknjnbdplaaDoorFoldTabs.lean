/- The tables of package fold: they lie in the text of the tables of both. -/
import Derived.Test.YtdhbbknjnbdplaaDoorUtfTabs
