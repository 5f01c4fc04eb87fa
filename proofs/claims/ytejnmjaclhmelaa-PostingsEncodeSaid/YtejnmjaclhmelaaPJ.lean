/- Layer 8: contracts of package postings, together. -/
import Derived.Test.YtejnmjaclhmelaaSJ
import Derived.Test.YtejnmjaclhmelaaSK
import Derived.Test.YtejnmjaclhmelaaSM
