"""The call plan: the moves that put a rack in the order that a sheet tells.

Here `stands` and `wanted` are lists with, for each slot, the tube that stands there
and the tube that the order gives it, or NO_TUBE.
"""

from tubebook.book import NO_TUBE
from tubebook.refusals import NO_EMPTY_SLOT, NO_ORDER, OUT_OF_RANGE
from tubebook.sheets import NO_LINE, read_sheet


def plan(book, r, numbers):
    if not book.has_rack(r):
        return [OUT_OF_RANGE]
    sheet = read_sheet(book.racks[r], numbers)
    if sheet.wrong_line != NO_LINE:
        return [1, sheet.wrong_line]
    stands = book.tubes_by_slot(r)
    wanted = order_told(book, stands, sheet.told)
    if wanted is None:
        return [NO_ORDER]
    moves = make_moves(stands, wanted)
    if stands != wanted:
        return [NO_EMPTY_SLOT]
    answer = [0, len(moves)]
    for move in moves:
        answer.extend(move)
    return answer


def order_told(book, stands, told):
    tubes = [t for t in stands if t != NO_TUBE]
    wanted = [NO_TUBE] * len(stands)
    for slot, label in told.items():
        named = [t for t in tubes if book.tubes[t].label == label]
        if len(named) != 1 or named[0] in wanted:
            return None
        wanted[slot] = named[0]
    # Each line has named a tube of its own, so only with as many lines is every tube named.
    return wanted if len(told) == len(tubes) else None


def make_moves(stands, wanted):
    """The moves, one after another; `stands` is changed by them."""
    moves = []
    move = next_move(stands, wanted)
    while move is not None:
        stands[move[1]] = stands[move[0]]
        stands[move[0]] = NO_TUBE
        moves.append(move)
        move = next_move(stands, wanted)
    return moves


def next_move(stands, wanted):
    for slot, t in enumerate(wanted):
        if t != NO_TUBE and stands[slot] == NO_TUBE:
            return (stands.index(t), slot)
    if NO_TUBE not in stands:
        return None
    for slot, t in enumerate(stands):
        if t != NO_TUBE and t != wanted[slot]:
            return (slot, stands.index(NO_TUBE))
    return None
