"""The whole numbers that stand in for what a caller leaves out."""

# A mask with all of its eight bits meets every mask.
ALL = 255

# More than the guests that a hall can have, so a move of so many moves all the rest.
EVERY = 1000

# How many states a look at all weavings goes through before it is refused.
MOST = 2000

# How many steps a weaving by turns makes before it is cut off.
TURNS = 4000
