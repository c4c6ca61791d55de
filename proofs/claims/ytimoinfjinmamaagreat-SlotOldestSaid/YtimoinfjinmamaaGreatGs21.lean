/- What is proved here: the references' Same: equal generations and equal slots are the same. -/
/- What is proved here: the references' Same: equal generations and equal slots are the same. -/
import Derived.Test.YtimoinfjinmamaaGreatGs20
