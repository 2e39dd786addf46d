import unittest

from tests.helper import FIELD, HAND, RIFT, TWICE, VOID, ask, batch, call, effect, event, last, less, move, play, stop, thing, thing_of

ASKED = (effect(TWICE), effect(TWICE), batch(event()))


class ThingCall(unittest.TestCase):

    def test_things_are_numbered_from_one(self):
        self.assertEqual(ask(thing(0, FIELD), thing(1, HAND), thing(0, VOID), thing(1, RIFT)), [[0, 1], [0, 2], [0, 3], [0, 4]])

    def test_a_thing_is_as_told(self):
        table = play(thing(0, RIFT), thing(1, HAND))
        self.assertEqual(thing_of(table, 1), [0, RIFT, 0, 0])
        self.assertEqual(thing_of(table, 2), [1, HAND, 0, 0])

    def test_ranges(self):
        for side, place in ((-1, 0), (2, 0), (0, -1), (0, 4), (-1, 4), (1000000000, 0), (0, -1000000000)):
            self.assertEqual(last(thing(side, place)), [-1], (side, place))
        for side, place in ((0, 0), (1, 0), (0, 3), (1, 3)):
            self.assertEqual(last(thing(side, place)), [0, 1], (side, place))

    def test_a_refused_thing_has_no_number(self):
        self.assertEqual(ask(thing(2, 0), thing(0, 0)), [[-1], [0, 1]])

    def test_at_most_sixteen(self):
        given = ask(*[thing()] * 17, thing(1, 1))
        self.assertEqual(given, [[0, number] for number in range(1, 17)] + [[-3], [-3]])

    def test_somebody_is_asked(self):
        self.assertEqual(last(*ASKED, thing()), [-2])

    def test_which_refusal_comes_first(self):
        full = [thing()] * 16
        self.assertEqual(last(*full, thing(2, 0)), [-1])
        self.assertEqual(last(*full, *ASKED, thing(0, 0)), [-2])
        self.assertEqual(last(*full, *ASKED, thing(0, 4)), [-1])


class StopCall(unittest.TestCase):

    def test_the_effect_ends(self):
        two = (effect(TWICE), effect(TWICE))
        self.assertEqual(ask(*two, batch(event()))[-1], [0, 1, 0, 1, 2])
        self.assertEqual(ask(*two, stop(2), batch(event()))[-2:], [[0], [0, 0]])
        self.assertEqual(play(*two, stop(1), batch(event())).sides[0].life, 10)

    def test_there_is_none_of_that_number(self):
        for number in (0, 2, -1, 1000000000, -1000000000):
            self.assertEqual(last(effect(TWICE), stop(number)), [-6], number)

    def test_not_twice(self):
        self.assertEqual(ask(effect(TWICE), stop(1), stop(1))[1:], [[0], [-6]])

    def test_an_effect_that_ended_by_itself(self):
        self.assertEqual(last(effect(TWICE, uses=1), batch(event()), stop(1)), [-6])
        self.assertEqual(last(thing(), effect(TWICE, source=1), batch(move(11, VOID)), stop(1)), [-6])

    def test_numbers_are_never_given_twice(self):
        self.assertEqual(ask(effect(TWICE), effect(TWICE), stop(2), effect(TWICE), stop(1), stop(3), effect(less(1)))[2:], [
            [0], [0, 3], [0], [0], [0, 4]])

    def test_somebody_is_asked(self):
        self.assertEqual(last(*ASKED, stop(1)), [-2])
        self.assertEqual(last(*ASKED, stop(7)), [-2])

    def test_form(self):
        self.assertEqual(last(*ASKED, call(2, [1, 1])), [-1])


if __name__ == "__main__":
    unittest.main()
