"""Places: the three numbers by which the calls tell where a tube is."""

IN_SLOT = 0
IN_HAND = 1

MOST_HAND = 9

WASTE = (2, 0, 0)


def slot_place(r, slot):
    return (IN_SLOT, r, slot)


def hand_place(hand):
    return (IN_HAND, hand, 0)


def is_hand(hand):
    return 0 <= hand <= MOST_HAND
