"""The numbers behind the document's words: kinds, places, targets, and what an effect does."""

DAMAGE = 0
DRAW = 1
GAIN = 2
COUNTERS = 3
TOKENS = 4
MOVE = 5
LAST_KIND = 5

FIELD = 0
LAST_PLACE = 3

MOST_THINGS = 16
FIRST_THING_TARGET = 11
LAST_THING_TARGET = 26

LESS = 0
MORE = 1
TWICE = 2
HALF = 3
NOTHING = 4
SHIELD = 5
TURN = 6
SPLIT = 7
INSTEAD = 8
BESIDES = 9
ELSEWHERE = 10


def is_side(target):
    return target == 0 or target == 1


def is_target(number):
    return is_side(number) or FIRST_THING_TARGET <= number <= LAST_THING_TARGET


def thing_of(target):
    return target - FIRST_THING_TARGET + 1


def suits(target, kind):
    if kind == DAMAGE:
        return True
    if kind == COUNTERS or kind == MOVE:
        return not is_side(target)
    return is_side(target)
