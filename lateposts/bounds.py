"""The bounds of what the program accepts."""

MAX_BOUND = 6
MAX_STATES = 4
MAX_ROWS = 6
MAX_PLACES = 56
MAX_LOG = 40
MAX_DEEDS = 60
MAX_ROW = 20
