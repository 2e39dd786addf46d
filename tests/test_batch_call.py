import unittest

from tests.helper import COUNTERS, DAMAGE, DRAW, GAIN, HAND, MOVE, TOKENS, TWICE, VOID
from tests.helper import ask, batch, call, effect, event, last, move, play, side_of, thing

ASKED = (effect(TWICE), effect(TWICE), batch(event()))
ALL_THINGS = [thing()] * 16


class Answers(unittest.TestCase):

    def test_nobody_is_asked(self):
        self.assertEqual(last(batch(event())), [0, 0])

    def test_somebody_is_asked(self):
        for side in (0, 1):
            self.assertEqual(last(effect(TWICE), effect(TWICE), batch(event(target=side))), [0, 1, side, 1, 2])

    def test_the_side_that_has_the_thing_is_asked(self):
        for side in (0, 1):
            self.assertEqual(last(thing(side), effect(TWICE), effect(TWICE), batch(event(target=11))), [0, 1, side, 1, 2])

    def test_a_batch_behind_another(self):
        table = play(batch(event(amount=2), event(DRAW, 1, 3)), batch(event(amount=4)))
        self.assertEqual(side_of(table, 0), [14, 0, 0])
        self.assertEqual(side_of(table, 1), [20, 3, 0])


class Form(unittest.TestCase):

    def test_length_of_an_events_row(self):
        for row in ([], [0], [0, 0, 0, 5], [0, 0, 0, 5, 0, 0], [0] * 50):
            self.assertEqual(last(batch(row)), [-1], row)
            self.assertEqual(last(batch(event(), row)), [-1], row)

    def test_range_of_the_kind(self):
        for kind in (-1, 6, 1000000000):
            self.assertEqual(last(batch([kind, 0, 0, 1, 0])), [-1], kind)
        for kind, target in ((DAMAGE, 0), (DRAW, 0), (GAIN, 0), (COUNTERS, 11), (TOKENS, 0), (MOVE, 11)):
            self.assertEqual(last(thing(), batch([kind, 0, target, 1, 0])), [0, 0], kind)

    def test_range_of_the_source(self):
        for source in (-1, 17, 1000000000):
            self.assertEqual(last(*ALL_THINGS, batch(event(source=source))), [-1], source)
        for source in (0, 1, 16):
            self.assertEqual(last(*ALL_THINGS, batch(event(source=source))), [0, 0], source)

    def test_range_of_the_target(self):
        for target in (-1, 2, 9, 10, 27, 1000000000):
            self.assertEqual(last(*ALL_THINGS, batch(event(target=target))), [-1], target)
        for target in (0, 1, 11, 26):
            self.assertEqual(last(*ALL_THINGS, batch(event(target=target))), [0, 0], target)

    def test_range_of_the_amount(self):
        for amount in (-1, 1000001, 1000000000):
            self.assertEqual(last(batch(event(amount=amount))), [-1], amount)
        for amount in (0, 1, 1000000):
            self.assertEqual(last(batch(event(amount=amount))), [0, 0], amount)

    def test_a_moves_amount_is_one(self):
        for amount in (-1, 0, 2, 1000000):
            self.assertEqual(last(thing(), batch(event(MOVE, 11, amount))), [-1], amount)
        self.assertEqual(last(thing(), batch(event(MOVE, 11, 1))), [0, 0])

    def test_range_of_the_place(self):
        for place in (-1, 4, 1000000000):
            self.assertEqual(last(thing(), batch(move(11, place))), [-1], place)
        for place in (0, 1, 2, 3):
            self.assertEqual(last(thing(), batch(move(11, place))), [0, 0], place)

    def test_a_place_of_moves_alone(self):
        for kind, target in ((DAMAGE, 0), (DRAW, 0), (GAIN, 0), (COUNTERS, 11), (TOKENS, 0)):
            for place in (-1, 1, 3):
                self.assertEqual(last(thing(), batch([kind, 0, target, 1, place])), [-1], kind)


class HowMany(unittest.TestCase):

    def test_none(self):
        self.assertEqual(last(batch()), [-3])

    def test_four_and_more(self):
        self.assertEqual(last(batch(*[event()] * 4)), [0, 0])
        self.assertEqual(last(batch(*[event()] * 5)), [-3])
        self.assertEqual(last(batch(*[event()] * 49)), [-3])

    def test_one_that_is_not_of_its_form_among_many(self):
        self.assertEqual(last(batch(*[event()] * 5, event(amount=-1))), [-1])
        self.assertEqual(last(batch(event(target=2), *[event()] * 48)), [-1])


class NotThere(unittest.TestCase):

    def test_a_target_that_is_not_there(self):
        self.assertEqual(last(thing(), batch(event(target=12))), [-4])
        self.assertEqual(last(thing(), batch(event(target=11), event(target=12))), [-4])
        self.assertEqual(last(thing(), thing(), batch(event(target=12))), [0, 0])

    def test_a_source_that_is_not_there(self):
        self.assertEqual(last(thing(), batch(event(source=2))), [-4])
        self.assertEqual(last(thing(), batch(event(source=1), event(source=2))), [-4])

    def test_a_source_need_not_be_on_the_field(self):
        self.assertEqual(last(thing(0, HAND), batch(event(source=1))), [0, 0])

    def test_a_target_that_does_not_suit(self):
        for kind in (DRAW, GAIN, TOKENS):
            self.assertEqual(last(thing(), batch(event(kind, 11))), [-4], kind)
        for side in (0, 1):
            self.assertEqual(last(thing(), batch(event(COUNTERS, side))), [-4])
            self.assertEqual(last(thing(), batch(move(side, VOID))), [-4])

    def test_a_refused_batch_changes_nothing(self):
        given = ask(effect(TWICE, uses=1), batch(event(), event(target=11)), effect(TWICE), batch(event()))
        self.assertEqual(given, [[0, 1], [-4], [0, 2], [0, 1, 0, 1, 2]])


class RefusalsInTurn(unittest.TestCase):

    def test_somebody_is_asked(self):
        self.assertEqual(last(*ASKED, batch(event())), [-2])

    def test_form_before_asked(self):
        self.assertEqual(last(*ASKED, batch(event(amount=-1))), [-1])

    def test_asked_before_how_many(self):
        self.assertEqual(last(*ASKED, batch()), [-2])
        self.assertEqual(last(*ASKED, batch(*[event()] * 5)), [-2])

    def test_asked_before_not_there(self):
        self.assertEqual(last(*ASKED, batch(event(target=11))), [-2])

    def test_how_many_before_not_there(self):
        self.assertEqual(last(batch(*[event(target=11)] * 5)), [-3])

    def test_numbers_in_the_first_row(self):
        self.assertEqual(last(call(3, [0], [event()])), [-1])
        self.assertEqual(last(call(3, [1])), [-1])


if __name__ == "__main__":
    unittest.main()
