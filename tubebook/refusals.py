"""The numbers that refuse a call; two reasons may share one number, as the document has it."""

OUT_OF_RANGE = -1
NO_LABEL = -2
TOO_LATE = -2
SAME_TUBE = -3
WRONG_PLACE = -4
WRONG_AMOUNT = -5
NO_ROOM = -6
OTHER_DRAW = -7
NO_ORDER = -7
WRONG_SLOT = -8
NOT_THERE_YET = -8
NO_EMPTY_SLOT = -9
