/- What every walk's text imports. -/
import Derived.Test.YtablcpebepcgeaaDoorRows
import Derived.Test.YtablcpebepcgeaaDoorPlain
import Derived.WalkKit
import Derived.WalkSpells
import Derived.WalkLawsBesides
import Derived.Lib.Hide
