/-
  Where the taints' own texts stand: all that XRefT needs.
-/
import Derived.Test.YtlfjjiepclphiaaTntL
import Derived.Test.YtlfjjiepclphiaaLex5
