/- What is proved here: nothing; this seat has none of the document's own writers. -/
import Derived.Test.YtjoifbfnkjbkhaaRef
