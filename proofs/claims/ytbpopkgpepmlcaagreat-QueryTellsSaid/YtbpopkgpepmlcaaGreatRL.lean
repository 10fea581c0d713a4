/-
  The end of the chain that the proof leans on: nothing is proved here; no condition.
-/
import Derived.Test.YtbpopkgpepmlcaaGreatR01
import Derived.Test.YtbpopkgpepmlcaaGreatR02
import Derived.Test.YtbpopkgpepmlcaaGreatR03
import Derived.Test.YtbpopkgpepmlcaaGreatR04
import Derived.Test.YtbpopkgpepmlcaaGreatR05
import Derived.Test.YtbpopkgpepmlcaaGreatR06
import Derived.Test.YtbpopkgpepmlcaaGreatR07
import Derived.Test.YtbpopkgpepmlcaaGreatR08
import Derived.Test.YtbpopkgpepmlcaaGreatR09
import Derived.Test.YtbpopkgpepmlcaaGreatR10
import Derived.Test.YtbpopkgpepmlcaaGreatR11
