/- What the laws of match know of choices. -/
import Derived.Test.YtnjalnnbdmmcmaaMatC
import Derived.Test.YtnjalnnbdmmcmaaMatLp
