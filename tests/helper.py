"""Calls written short, their answers taken apart, and a look at a session between two calls."""

from duelevents.desk import answers
from duelevents.session import answer_call
from duelevents.tables import Table

DAMAGE, DRAW, GAIN, COUNTERS, TOKENS, MOVE = range(6)
FIELD, HAND, VOID, RIFT = range(4)
KINDS = range(6)

TWICE = [2, 0, 0, 0, 0]
HALF = [3, 0, 0, 0, 0]
NOTHING = [4, 0, 0, 0, 0]


def less(n):
    return [0, n, 0, 0, 0]


def more(n):
    return [1, n, 0, 0, 0]


def shield(n):
    return [5, n, 0, 0, 0]


def turn(x):
    return [6, x, 0, 0, 0]


def split(x):
    return [7, x, 0, 0, 0]


def instead(k, x, n=0, z=0):
    return [8, k, x, n, z]


def besides(k, x, n=0, z=0):
    return [9, k, x, n, z]


def elsewhere(z):
    return [10, z, 0, 0, 0]


def call(number, numbers=(), rows=()):
    """A call as a tuple: its number, its whole numbers, its rows."""
    return number, list(numbers), [list(row) for row in rows]


def thing(side=0, place=FIELD):
    return call(0, [side, place])


def effect(does, side=0, source=0, kind=DAMAGE, aim=0, whose=0, own=0, may=0, uses=0, things=(), sources=()):
    return call(1, [side, source, kind, aim, whose, own, may, uses], [things, sources, does])


def stop(e):
    return call(2, [e])


def batch(*events):
    return call(3, [], events)


def choose(side, e):
    return call(4, [side, e])


def decline(side, e):
    return call(5, [side, e])


REST = call(6)
UNDO = call(7)
ASK = call(8)


def show_side(p):
    return call(9, [p])


def look(t):
    return call(10, [t])


EFFECTS = call(11)


def book(k):
    return call(12, [k])


LEFT = call(13)


def own(t, side):
    return call(14, [t, side])


def event(kind=DAMAGE, target=0, amount=5, source=0, place=FIELD):
    return [kind, source, target, amount, place]


def move(target, place, source=0):
    return event(MOVE, target, 1, source, place)


def flat(calls):
    """The calls as the one list of numbers that the interface takes."""
    numbers = []
    for number, arguments, rows in calls:
        numbers += [number, len(arguments)] + arguments + [len(rows)]
        for row in rows:
            numbers += [len(row)] + row
    return numbers


def apart(numbers):
    """The answers to single calls, out of the one list that the interface gives back."""
    single = []
    position = 0
    while position < len(numbers):
        length = numbers[position]
        single.append(numbers[position + 1:position + 1 + length])
        position += 1 + length
    return single


def ask(*calls):
    return apart(answers(flat(calls)))


def last(*calls):
    return ask(*calls)[-1]


def by(size, numbers):
    """A row of numbers cut into rows of one size."""
    return [numbers[start:start + size] for start in range(0, len(numbers), size)]


def told(table, one):
    return answer_call(table, one[0], one[1], one[2])


def play(*calls):
    """The table as it is after these calls, none of which may be refused."""
    table = Table()
    for one in calls:
        answer = told(table, one)
        if answer[0] != 0:
            raise AssertionError(f"the call {one} is answered {answer}")
    return table


def left(table):
    """The events still to be looked at, then the settled ones that haven't happened."""
    return by(5, told(table, LEFT)[1:])


def side_of(table, side):
    return told(table, show_side(side))[1:]


def thing_of(table, number):
    return told(table, look(number))[1:]


def book_of(table, kind):
    return told(table, book(kind))[1:]


def all_shown(things):
    """The calls that show all there is to see, where there are so many things."""
    looks = [look(number) for number in range(1, things + 1)]
    return [ASK, show_side(0), show_side(1), EFFECTS, LEFT] + looks + [book(kind) for kind in KINDS]


def effects_of(table):
    return [[one.number, one.uses, one.does] for one in table.effects]


def shown(value):
    """All that an object holds, as plain values, to compare two tables by."""
    if isinstance(value, list):
        return [shown(one) for one in value]
    if hasattr(value, "__dict__"):
        return {name: shown(one) for name, one in vars(value).items()}
    return value
