/- What every walk's text imports. -/
import Derived.Test.YtkgcblhhindiaaaDoorRows
import Derived.Test.YtkgcblhhindiaaaDoorPlain
import Derived.WalkKit
import Derived.WalkSpells
import Derived.WalkLawsBesides
import Derived.Lib.Hide
