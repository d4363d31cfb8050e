/-
  What stands before the document's examples.
-/
import Derived.Test.YtibkpglgeincdaaDoorSs6
import Derived.Test.YtibkpglgeincdaaDoorSs7
import Derived.Test.YtibkpglgeincdaaDoorSn1
import Derived.BigRegion
