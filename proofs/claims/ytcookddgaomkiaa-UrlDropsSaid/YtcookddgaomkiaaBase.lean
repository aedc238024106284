/- What every walk's text imports. -/
import Derived.Test.YtcookddgaomkiaaRows
import Derived.Test.YtcookddgaomkiaaPlain
import Derived.WalkKit
import Derived.WalkSpells
import Derived.WalkLawsBesides
import Derived.Lib.Hide
