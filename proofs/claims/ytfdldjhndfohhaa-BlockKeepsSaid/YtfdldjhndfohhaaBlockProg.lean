/-
  The program's contracts of chapter 8, gathered: dev, newOk, appendOk, syncOk, cutOk, readOk, lenOk, safeOk, roomOk, fuseOk, downOk, crashOk, rotOk, noneOk. No conditions but those typed.
-/
import Derived.Test.YtfdldjhndfohhaaBlockP7
import Derived.Test.YtfdldjhndfohhaaBlockP8
