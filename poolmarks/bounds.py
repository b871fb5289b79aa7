"""The limits of panels, rows and books."""

ITEMS = 8
RULES = 16
MARK = 10 ** 9
WEIGHT = 10 ** 6
ROW = 40
ACTIONS = 60
BATCH = 20
