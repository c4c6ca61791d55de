/- What is proved here: nothing more; the walk of GfmatrixInverts and the reference's Invert, as one import. -/
import Derived.Test.YtcckhgadgiaofaaL3c
import Derived.Test.YtcckhgadgiaofaaR3i
