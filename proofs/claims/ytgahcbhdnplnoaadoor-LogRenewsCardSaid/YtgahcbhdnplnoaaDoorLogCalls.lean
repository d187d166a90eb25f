/- The program's log: what its calls come to, all of it. -/
import Derived.Test.YtgahcbhdnplnoaaDoorLogRenewC
import Derived.Test.YtgahcbhdnplnoaaDoorLogOpenC
import Derived.Test.YtgahcbhdnplnoaaDoorDiskNew
