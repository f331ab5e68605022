"""Points, pieces and sheets: what they are, and which pieces have a point."""

from ringlayers.fractions import is_fraction, is_tuple_of, is_whole, lies_between

WHOLE_TURN = 24
MOST_OUTER = 999
MOST_PIECES = 8


def is_sheet(thing):
    if not isinstance(thing, tuple) or len(thing) > MOST_PIECES:
        return False
    return all([is_piece(part) for part in thing])


def is_piece(thing):
    if not is_tuple_of(4, thing):
        return False
    if not all([is_whole(part) for part in thing]):
        return False
    return is_ring(thing[0], thing[1]) and is_arc(thing[2], thing[3])


def is_ring(inner, outer):
    return 0 <= inner < outer <= MOST_OUTER


def is_arc(begin, wide):
    return 0 <= begin < WHOLE_TURN and 1 <= wide <= WHOLE_TURN


def is_point(thing):
    if not is_tuple_of(2, thing):
        return False
    if not all([is_fraction(part) for part in thing]):
        return False
    return is_far(thing[0]) and lies_between(thing[1], 0, WHOLE_TURN)


def is_far(fraction):
    return fraction[0] > 0


def has(piece, point):
    return ring_has(piece[0], piece[1], point[0]) and arc_has(piece[2], piece[3], point[1])


def ring_has(inner, outer, far):
    return lies_between(far, inner, outer)


def arc_has(begin, wide, turn):
    return lies_between(rise(begin, turn), 0, wide)


def rise(begin, turn):
    # Whole turns away and a whole begin away, the pair still can't be made less: it stays a fraction.
    lower = turn[1]
    return ((turn[0] - begin * lower) % (WHOLE_TURN * lower), lower)


def layers(sheet, point):
    return tuple([number for number, piece in enumerate(sheet) if has(piece, point)])
