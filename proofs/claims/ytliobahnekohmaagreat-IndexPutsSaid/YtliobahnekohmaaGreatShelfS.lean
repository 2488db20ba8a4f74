/-
  The contracts of package slices at this translation stand in the text of the shelf.
-/
import Derived.Test.YtliobahnekohmaaGreatShelf
