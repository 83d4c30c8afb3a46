/-
  This seat has no writers and readers: its memory's text.
-/
import Derived.Test.YtpmolkomnnpepaaDoorMf
