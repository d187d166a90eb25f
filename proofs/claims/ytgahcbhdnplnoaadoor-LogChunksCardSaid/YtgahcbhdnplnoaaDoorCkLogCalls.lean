/- The program's log: what its calls come to, all of it. -/
import Derived.Test.YtgahcbhdnplnoaaDoorCkLogRenewC
import Derived.Test.YtgahcbhdnplnoaaDoorCkLogOpenC
import Derived.Test.YtgahcbhdnplnoaaDoorCkDiskNew
