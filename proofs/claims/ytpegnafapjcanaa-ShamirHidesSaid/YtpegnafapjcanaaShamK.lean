/- The contracts of the developers' shamir: splitc, splite, combc, combe, refrc, refre. No condition of its own. -/
import Derived.Test.YtpegnafapjcanaaKSplit
import Derived.Test.YtpegnafapjcanaaKRefr
import Derived.Test.YtpegnafapjcanaaKCombC
