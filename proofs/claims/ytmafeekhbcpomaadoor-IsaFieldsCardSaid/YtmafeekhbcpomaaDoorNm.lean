/-
  The texts that both walks of Text want.
-/
import Derived.Test.YtmafeekhbcpomaaDoorOp
import Derived.Test.YtmafeekhbcpomaaDoorRe
