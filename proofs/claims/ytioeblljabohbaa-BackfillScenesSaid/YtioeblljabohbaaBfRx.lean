/-
  What Scenes and Earliest hang on, gathered.
-/
import Derived.Test.YtioeblljabohbaaBfRg
import Derived.Test.YtioeblljabohbaaBfRy
import Derived.Test.YtioeblljabohbaaBfZz
import Derived.Test.YtioeblljabohbaaBfJj
import Derived.Test.YtioeblljabohbaaBfSt
import Derived.Test.YtioeblljabohbaaBfLw
import Derived.Test.YtioeblljabohbaaBfRef
