/-
  Layer 7: the program's Check and Encode, as the statements' walks use them (proofs: UstSmall, UstEnc).
-/
import Derived.Test.YtbgmhdhfcckbbaaDoorUstEnc
import Derived.Test.YtbgmhdhfcckbbaaDoorHdEq
