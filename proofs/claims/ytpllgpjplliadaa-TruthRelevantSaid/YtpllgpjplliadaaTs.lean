/-
  The contracts of the program's package truth, joined.
-/
import Derived.Test.YtpllgpjplliadaaTsc
import Derived.Test.YtpllgpjplliadaaTsd
