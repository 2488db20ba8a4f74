/-
  Few of the laws, and Get.
-/
import Derived.Test.YtidfanmfibbiiaaLaK
