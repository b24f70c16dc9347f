"""The fixed numbers of the package."""

# Integers of a run are from -LIMIT to LIMIT.
LIMIT = 10 ** 12

# So many frames a task may have.
DEPTH = 20

# So many statements begin in one turn at most.
QUANTUM = 6

# So many cells of a memory form a page.
PAGE = 8

# So many parts an index block of a store has at most.
FAN = 4

# So many ATOMs a block of a disk has at most.
WIDTH = 24

# So many blocks the log of a host has.
LOG_BLOCKS = 16
