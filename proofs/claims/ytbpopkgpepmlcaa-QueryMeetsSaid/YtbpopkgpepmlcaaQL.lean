/-
  The end of the chain that the proof leans on: nothing is proved here; no condition.
-/
import Derived.Test.YtbpopkgpepmlcaaQ06
