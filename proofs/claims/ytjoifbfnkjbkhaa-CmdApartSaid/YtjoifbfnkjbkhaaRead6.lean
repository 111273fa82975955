/- What is proved here: nothing; this seat reads no list of numbers. -/
import Derived.Test.YtjoifbfnkjbkhaaRead5
