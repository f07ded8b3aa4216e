"""The limits that the document sets."""

# A scale turns at most this often, forwards or backwards.
MAX_TURNS = 3

# Scales on the body of a rule, and as many on its slide.
MAX_SCALES = 6

# Steps of a working, those in tries counted too.
MAX_STEPS = 10

# A try lies in at most one fewer other tries than this.
MAX_DEPTH = 2

# Operands of a working, with the names of a wish where there is one.
MAX_OPERANDS = 3

# The greatest factor of a name in a wish, with either sign.
MAX_FACTOR = 3

# Features that a book weighs.
MAX_FEATURES = 6

# Deeds in effect on a desk.
MAX_DEEDS = 30
