/-
  This seat has no writers and readers: its memory's text, by things.
-/
import Derived.Test.YtflmgilmbppieaaGreatDoorXm
import Derived.BigRegion
import Derived.BigQuiet
import Derived.Deep.QuietTactic
import Derived.Deep.SlicePairs
import Derived.Laws.BitsAllLaws
import Derived.Laws.BytesString
import Derived.Lib.Walk
import Derived.Lib.Small
