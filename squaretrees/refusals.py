"""The numbers that a refused call answers.

Where several are due the one nearest to 0 is answered: every call asks for them in the order of this file.
"""

OUT_OF_RANGE = -1
NO_ROOM = -2
NO_SUCH_POINT = -3
BAD_NUMBER = -4
NOTHING_THERE = -5
