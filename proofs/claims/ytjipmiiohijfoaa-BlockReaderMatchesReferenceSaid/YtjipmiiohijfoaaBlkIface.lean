/-
  Layer 6: what the statements' walks ask of the program's reader and writer.
-/
import Derived.Test.YtjipmiiohijfoaaBlkRdr
import Derived.Test.YtjipmiiohijfoaaBlkWtr
import Derived.Test.YtjipmiiohijfoaaSnkNew
