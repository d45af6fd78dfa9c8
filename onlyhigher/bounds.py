"""The bounds of the package, one name for each."""

# Values, cards and codes.
MAX_NUMBER = 999
MAX_WORD = 8
MAX_ITEMS = 4
MAX_CELLS = 6
MAX_TOP = 7
MAX_STATES = 512
MAX_VALUES = 64

# Groups.
MAX_MODULI = 3
MAX_ORDER = 64

# Best codes and trees.
MAX_BEST = 9
MAX_MANY = 4

# Slips and shares.
MAX_SLIPS = 3
MAX_WEIGHT = 1000

# Shelves and tapes.
MAX_NAMES = 6
MAX_SPARES = 3
MAX_SHELF = 4096
MAX_WIDE = 12
MAX_TAPE = 400

# Benches.
MAX_EDITS = 40
BATCH = 12

# Rows known ahead, and machines.
MAX_AHEAD = 64
MAX_ROOMS = 6
