"""Moves: ("out", far), straight to this far, and ("on", by), equally far, by so many 24ths."""

from ringlayers.fractions import added, is_fraction, is_tuple_of, lowest, opposite
from ringlayers.pieces import WHOLE_TURN, is_far

OUT = "out"
ON = "on"


def is_move(thing):
    if not is_tuple_of(2, thing) or not is_fraction(thing[1]):
        return False
    if thing[0] == OUT:
        return is_far(thing[1])
    return thing[0] == ON and is_at_most_a_turn(thing[1])


def is_at_most_a_turn(by):
    return abs(by[0]) <= WHOLE_TURN * by[1]


def end_of(point, move):
    if move[0] == OUT:
        return (move[1], point[1])
    return (point[0], from_0_on(added(point[1], move[1])))


def from_0_on(turn):
    # Behind all turns below 24 comes 0 again.
    return lowest(turn[0] % (WHOLE_TURN * turn[1]), turn[1])


def moves_between(point, goal):
    """First out, then on, the shorter way round; no move that goes nowhere."""
    moves = []
    if point[0] != goal[0]:
        moves.append((OUT, goal[0]))
    by = shortest(added(goal[1], opposite(point[1])))
    if by[0] != 0:
        moves.append((ON, by))
    return moves


def shortest(by):
    half = (WHOLE_TURN // 2, 1)
    return added(from_0_on(added(by, half)), opposite(half))
