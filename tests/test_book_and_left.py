import unittest

from tests.helper import COUNTERS, DAMAGE, DRAW, FIELD, GAIN, HALF, HAND, KINDS, LEFT, MOVE, NOTHING, REST, RIFT, TOKENS, TWICE
from tests.helper import UNDO, VOID, ask, batch, besides, book, by, choose, decline, effect, elsewhere, event, instead, last, less
from tests.helper import more, move, shield, split, thing, turn

AMOUNTED = ((DAMAGE, 0), (DRAW, 1), (GAIN, 0), (COUNTERS, 11), (TOKENS, 1))
BOOKS = [book(kind) for kind in KINDS]
EMPTY = [0] * 6


def books(*calls):
    """The books of all kinds behind these calls."""
    return [answer[1:] for answer in ask(*calls, *BOOKS)[-6:]]


def only(kind, *numbers):
    """The books of all kinds, where that of one kind has these numbers and the others are empty."""
    return [list(numbers) if one == kind else EMPTY for one in KINDS]


def events_left(*calls):
    return by(5, last(*calls, LEFT)[1:])


class BookCall(unittest.TestCase):

    def test_at_first(self):
        self.assertEqual(ask(*BOOKS), [[0] + EMPTY] * 6)

    def test_no_such_kind(self):
        for k in (-1000000000, -1, 6, 7, 1000000000):
            self.assertEqual(last(book(k)), [-4], k)
            self.assertEqual(last(effect(TWICE, may=1), batch(event()), book(k)), [-4], k)

    def test_told_and_happened(self):
        for kind, target in AMOUNTED:
            self.assertEqual(books(thing(), batch(event(kind, target, 7), event(kind, target, 4))), only(kind, 11, 0, 0, 0, 0, 11))
        self.assertEqual(books(thing(), batch(move(11, VOID)), batch(move(11, RIFT))), only(MOVE, 2, 0, 0, 0, 0, 2))

    def test_the_order_of_the_six_numbers(self):
        calls = (effect(more(1)), effect(less(3)), effect(besides(DAMAGE, 1, 90)), effect(instead(DAMAGE, 1, 700)))
        choices = (batch(event(amount=5)), choose(0, 1), choose(0, 2), choose(0, 3))
        # The 5 become 6, then 3, and 90 are made; then 700 are made instead of the 3, and 700 instead of the 90.
        self.assertEqual(last(*calls, *choices, book(DAMAGE)), [0, 5, 1490, 1, 3, 93, 1400])

    def test_it_adds_up_over_batches(self):
        calls = (effect(TWICE), batch(event(amount=3)), batch(event(target=1, amount=4)))
        self.assertEqual(books(*calls), only(DAMAGE, 7, 0, 7, 0, 0, 14))


class BookByWhatAnEffectDoes(unittest.TestCase):

    def assert_each_kind(self, does, told, *numbers):
        for kind, target in AMOUNTED:
            calls = (thing(), effect(does, kind=kind), batch(event(kind, target, told)))
            self.assertEqual(books(*calls), only(kind, *numbers), (does, kind))

    def test_0_less(self):
        self.assert_each_kind(less(3), 5, 5, 0, 0, 3, 0, 2)
        self.assert_each_kind(less(9), 5, 5, 0, 0, 5, 0, 0)

    def test_1_more(self):
        self.assert_each_kind(more(3), 5, 5, 0, 3, 0, 0, 8)

    def test_2_twice(self):
        self.assert_each_kind(TWICE, 5, 5, 0, 5, 0, 0, 10)

    def test_3_half(self):
        self.assert_each_kind(HALF, 5, 5, 0, 0, 3, 0, 2)
        self.assert_each_kind(HALF, 1, 1, 0, 0, 1, 0, 0)

    def test_4_nothing(self):
        self.assert_each_kind(NOTHING, 5, 5, 0, 0, 5, 0, 0)
        self.assertEqual(books(thing(), effect(NOTHING, kind=MOVE), batch(move(11, VOID))), only(MOVE, 1, 0, 0, 1, 0, 0))

    def test_5_shield(self):
        self.assert_each_kind(shield(3), 5, 5, 0, 0, 3, 0, 2)
        self.assert_each_kind(shield(9), 5, 5, 0, 0, 5, 0, 0)

    def test_6_and_7_target_and_split(self):
        for kind, target in AMOUNTED:
            for form in (turn, split):
                calls = (thing(), effect(form(target), kind=kind), batch(event(kind, target, 5)))
                self.assertEqual(books(*calls), only(kind, 5, 0, 0, 0, 0, 5), kind)

    def test_8_instead(self):
        for kind, target in AMOUNTED:
            for k, x in AMOUNTED:
                if k != kind:
                    for n, made in ((0, 5), (7, 7)):
                        given = books(thing(), effect(instead(k, x, n), kind=kind), batch(event(kind, target, 5)))
                        self.assertEqual(given[kind], [5, 0, 0, 0, 5, 0], (kind, k))
                        self.assertEqual(given[k], [0, made, 0, 0, 0, made], (kind, k))
                        self.assertEqual(given.count(EMPTY), 4, (kind, k))
            given = books(thing(), effect(instead(kind, target, 7), kind=kind), batch(event(kind, target, 5)))
            self.assertEqual(given, only(kind, 5, 7, 0, 0, 5, 7))

    def test_8_instead_with_moves(self):
        given = books(thing(), effect(instead(MOVE, 11, 0, VOID)), batch(event()))
        self.assertEqual((given[DAMAGE], given[MOVE]), ([5, 0, 0, 0, 5, 0], [0, 1, 0, 0, 0, 1]))
        given = books(thing(), effect(instead(DAMAGE, 0), kind=MOVE), batch(move(11, VOID)))
        self.assertEqual((given[MOVE], given[DAMAGE]), ([1, 0, 0, 0, 1, 0], [0, 1, 0, 0, 0, 1]))

    def test_9_besides(self):
        for kind, target in AMOUNTED:
            for k, x in AMOUNTED:
                if k != kind:
                    for n, made in ((0, 5), (7, 7)):
                        given = books(thing(), effect(besides(k, x, n), kind=kind), batch(event(kind, target, 5)))
                        self.assertEqual(given[kind], [5, 0, 0, 0, 0, 5], (kind, k))
                        self.assertEqual(given[k], [0, made, 0, 0, 0, made], (kind, k))
            given = books(thing(), effect(besides(kind, target, 7), kind=kind), batch(event(kind, target, 5)))
            self.assertEqual(given, only(kind, 5, 7, 0, 0, 0, 12))

    def test_10_elsewhere(self):
        self.assertEqual(books(thing(), effect(elsewhere(RIFT), kind=MOVE), batch(move(11, VOID))), only(MOVE, 1, 0, 0, 0, 0, 1))

    def test_happened_where_nothing_comes_of_it(self):
        for place in (HAND, VOID, RIFT):
            given = books(thing(0, place), batch(event(DAMAGE, 11, 3), event(COUNTERS, 11, 4)))
            self.assertEqual((given[DAMAGE], given[COUNTERS]), ([3, 0, 0, 0, 0, 3], [4, 0, 0, 0, 0, 4]))

    def test_while_somebody_is_asked(self):
        calls = (effect(more(2)), effect(HALF, may=1), batch(event(amount=8), event(DRAW, 1, 6)))
        self.assertEqual(books(*calls)[:2], [[8, 0, 0, 0, 0, 0], [6, 0, 0, 0, 0, 0]])
        self.assertEqual(books(*calls, choose(0, 1))[:2], [[8, 0, 2, 0, 0, 0], [6, 0, 0, 0, 0, 0]])
        self.assertEqual(books(*calls, choose(0, 1), choose(0, 2))[:2], [[8, 0, 2, 5, 0, 5], [6, 0, 0, 0, 0, 6]])
        self.assertEqual(books(*calls, choose(0, 1), UNDO), [EMPTY] * 6)

    def test_a_refused_batch_is_not_told(self):
        for refused in (batch(event(), event(target=12)), batch(*[event()] * 5), batch(event(), event(amount=-1)), batch()):
            self.assertEqual(books(thing(), refused), [EMPTY] * 6)


class LeftCall(unittest.TestCase):

    def test_nobody_is_asked(self):
        self.assertEqual(ask(LEFT), [[0]])
        self.assertEqual(last(effect(TWICE), batch(event(), event(DRAW)), LEFT), [0])
        self.assertEqual(last(effect(TWICE, may=1), batch(event(), event(DRAW)), REST, LEFT), [0])
        self.assertEqual(last(effect(TWICE, may=1), batch(event(), event(DRAW)), UNDO, LEFT), [0])

    def test_the_one_asked_about_alone(self):
        self.assertEqual(last(thing(1), effect(TWICE, may=1), batch(event(DAMAGE, 11, 7, 1)), LEFT), [0, DAMAGE, 1, 11, 7, 0])
        calls = (thing(1), effect(NOTHING, kind=MOVE, may=1), batch(move(11, RIFT, 1)))
        self.assertEqual(last(*calls, LEFT), [0, MOVE, 1, 11, 1, RIFT])

    def test_the_one_asked_about_then_those_behind_it(self):
        told = [event(), event(TOKENS, 1, 3), move(11, VOID), event(DRAW, 1, 2)]
        self.assertEqual(events_left(thing(), effect(TWICE, may=1), batch(*told)), told)

    def test_settled_ones_behind_all_others_in_their_order(self):
        told = [event(DRAW, 1, 2), event(TOKENS, 1, 3), event(), event(GAIN, 0, 9)]
        self.assertEqual(events_left(effect(TWICE, may=1), batch(*told)), [told[2], told[3], told[0], told[1]])

    def test_those_of_amount_0(self):
        told = [event(amount=0), event(), event(DRAW, 1, 0), event(amount=0)]
        self.assertEqual(events_left(effect(TWICE, may=1), batch(*told)), told[1:])

    def test_one_that_fell_away_is_not_among_them(self):
        calls = (effect(less(5)), effect(HALF, may=1), batch(event(), event(target=1, amount=9)), choose(0, 1))
        self.assertEqual(events_left(*calls), [event(target=1, amount=9)])

    def test_those_split_off(self):
        calls = (effect(split(1)), effect(HALF, may=1), batch(event(DAMAGE, 0, 7), event(DRAW)), choose(0, 1))
        self.assertEqual(events_left(*calls), [event(DAMAGE, 0, 4), event(DAMAGE, 1, 3), event(DRAW)])
        self.assertEqual(events_left(*calls, decline(0, 2)), [event(DAMAGE, 1, 3), event(DRAW), event(DAMAGE, 0, 4)])

    def test_those_made(self):
        made = (effect(besides(GAIN, 0, 7)), effect(besides(GAIN, 1, 9)), effect(HALF, may=1))
        calls = (*made, batch(event(), event(DRAW)), choose(0, 1), choose(0, 2))
        self.assertEqual(events_left(*calls), [event(), event(GAIN, 1, 9), event(GAIN, 0, 7), event(DRAW)])
        calls = (thing(), effect(instead(MOVE, 11, 0, HAND)), effect(NOTHING, kind=MOVE, may=1), batch(event(), event(DRAW)))
        self.assertEqual(events_left(*calls), [move(11, HAND), event(DRAW)])

    def test_as_they_are_now(self):
        calls = (effect(turn(1)), effect(more(2)), effect(HALF, may=1), batch(event(), event(DRAW)), choose(0, 1), choose(1, 2))
        self.assertEqual(events_left(*calls), [event(DAMAGE, 1, 7), event(DRAW)])
        calls = (thing(), effect(elsewhere(HAND), kind=MOVE), effect(NOTHING, kind=MOVE, may=1), batch(move(11, FIELD)), choose(0, 1))
        self.assertEqual(events_left(*calls), [move(11, HAND)])


if __name__ == "__main__":
    unittest.main()
