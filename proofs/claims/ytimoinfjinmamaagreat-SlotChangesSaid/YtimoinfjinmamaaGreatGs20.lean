/- What is proved here: the laws' told: what the program has is what the reference has. -/
/- What is proved here: the laws' told: what the program has is what the reference has. -/
import Derived.Test.YtimoinfjinmamaaGreatGs19
