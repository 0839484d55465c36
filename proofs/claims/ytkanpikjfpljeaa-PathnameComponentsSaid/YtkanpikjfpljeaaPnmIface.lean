/-
  Layer 8: what the statements' walks ask of the program (proved): Check, Parent, Base, Split, Join, Compare.
-/
import Derived.Test.YtkanpikjfpljeaaPnmChk
