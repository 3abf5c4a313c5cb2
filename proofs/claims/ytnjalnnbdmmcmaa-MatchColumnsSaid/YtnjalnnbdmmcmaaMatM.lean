/- Costs that a law lays: rows of the call's own. -/
import Derived.Test.YtnjalnnbdmmcmaaMatK
import Derived.Test.YtnjalnnbdmmcmaaMatO
import Derived.Test.YtnjalnnbdmmcmaaIsRow
