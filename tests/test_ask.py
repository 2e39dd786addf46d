import unittest

from tests.helper import ASK, COUNTERS, DAMAGE, DRAW, GAIN, HALF, HAND, MOVE, NOTHING, REST, RIFT, TWICE, UNDO
from tests.helper import ask, batch, besides, choose, decline, effect, elsewhere, event, instead, last, more, move, split, thing, turn

TWO = (effect(TWICE), effect(more(3)))
MAYS = (effect(TWICE, may=1), effect(more(3), may=1), effect(HALF, may=1))


class NobodyIsAsked(unittest.TestCase):

    def test_at_first(self):
        self.assertEqual(ask(ASK), [[0, 0]])

    def test_where_effects_stand(self):
        self.assertEqual(last(thing(), *TWO, ASK), [0, 0])

    def test_when_all_has_happened(self):
        self.assertEqual(last(batch(event()), ASK), [0, 0])
        self.assertEqual(last(*TWO, batch(event()), choose(0, 1), ASK), [0, 0])
        self.assertEqual(last(*TWO, batch(event()), REST, ASK), [0, 0])

    def test_when_the_batch_is_taken_back(self):
        self.assertEqual(last(*TWO, batch(event()), UNDO, ASK), [0, 0])

    def test_when_the_batch_was_refused(self):
        self.assertEqual(last(*TWO, batch(event(target=11)), ASK), [0, 0])


class TheEvent(unittest.TestCase):

    def test_one_offered_and_an_empty_list(self):
        self.assertEqual(last(effect(TWICE, may=1), batch(event(amount=7)), ASK), [0, 1, 0, 1, 1, DAMAGE, 0, 0, 7, 0])

    def test_several_offered_and_an_empty_list(self):
        self.assertEqual(last(*TWO, batch(event(amount=7)), ASK), [0, 1, 0, 2, 1, 2, DAMAGE, 0, 0, 7, 0])

    def test_a_side_as_the_target(self):
        for side in (0, 1):
            given = last(effect(TWICE, kind=GAIN, may=1), batch(event(GAIN, side, 4)), ASK)
            self.assertEqual(given, [0, 1, side, 1, 1, GAIN, 0, side, 4, 0])

    def test_a_thing_as_the_target(self):
        for side in (0, 1):
            given = last(thing(1 - side), thing(side), effect(TWICE, kind=COUNTERS, may=1), batch(event(COUNTERS, 12, 4, 1)), ASK)
            self.assertEqual(given, [0, 1, side, 1, 1, COUNTERS, 1, 12, 4, 0])

    def test_a_move_and_where_to(self):
        given = last(thing(), thing(1), effect(NOTHING, kind=MOVE, may=1), batch(move(12, RIFT, 1)), ASK)
        self.assertEqual(given, [0, 1, 1, 1, 1, MOVE, 1, 12, 1, RIFT])

    def test_the_event_as_it_is_now(self):
        halt = effect(HALF, may=1)
        self.assertEqual(last(effect(more(3)), halt, batch(event()), choose(0, 1), ASK), [0, 1, 0, 1, 2, DAMAGE, 0, 0, 8, 0, 1])
        self.assertEqual(last(effect(turn(1)), halt, batch(event()), choose(0, 1), ASK), [0, 1, 1, 1, 2, DAMAGE, 0, 1, 5, 0, 1])
        self.assertEqual(last(effect(split(1)), halt, batch(event()), choose(0, 1), ASK), [0, 1, 0, 1, 2, DAMAGE, 0, 0, 3, 0, 1])
        calls = (thing(), effect(elsewhere(HAND), kind=MOVE), effect(NOTHING, kind=MOVE, may=1), batch(move(11, RIFT)))
        self.assertEqual(last(*calls, choose(0, 1), ASK), [0, 1, 0, 1, 2, MOVE, 0, 11, 1, HAND, 1])

    def test_the_one_that_is_looked_at(self):
        calls = (effect(TWICE, may=1), batch(event(DRAW), event(amount=0), event(amount=6), event(target=1, amount=7)))
        self.assertEqual(last(*calls, ASK), [0, 1, 0, 1, 1, DAMAGE, 0, 0, 6, 0])
        self.assertEqual(last(*calls, choose(0, 1), ASK), [0, 1, 1, 1, 1, DAMAGE, 0, 1, 7, 0])


class ItsList(unittest.TestCase):

    def test_the_last_one_in_front(self):
        calls = (effect(TWICE), effect(more(3)), effect(more(1)), effect(HALF, may=1), batch(event()))
        self.assertEqual(last(*calls, choose(0, 2), ASK), [0, 1, 0, 3, 1, 3, 4, DAMAGE, 0, 0, 8, 0, 2])
        self.assertEqual(last(*calls, choose(0, 2), choose(0, 1), ASK), [0, 1, 0, 2, 3, 4, DAMAGE, 0, 0, 16, 0, 1, 2])
        self.assertEqual(last(*calls, choose(0, 2), choose(0, 1), choose(0, 3), ASK), [0, 1, 0, 1, 4, DAMAGE, 0, 0, 17, 0, 3, 1, 2])

    def test_a_declined_one_stands_in_it(self):
        self.assertEqual(last(*MAYS, batch(event()), decline(0, 2), ASK), [0, 1, 0, 2, 1, 3, DAMAGE, 0, 0, 5, 0, 2])
        self.assertEqual(last(*MAYS, batch(event()), choose(0, 1), decline(0, 3), ASK), [0, 1, 0, 1, 2, DAMAGE, 0, 0, 10, 0, 3, 1])

    def test_one_used_without_asking_stands_in_it(self):
        calls = (effect(turn(1), whose=1), effect(TWICE, side=1, may=1, whose=1), batch(event()))
        self.assertEqual(last(*calls, ASK), [0, 1, 1, 1, 2, DAMAGE, 0, 1, 5, 0, 1])

    def test_one_that_has_ended_stands_in_it(self):
        given = last(effect(more(3), uses=1), effect(HALF, may=1), batch(event()), choose(0, 1), ASK)
        self.assertEqual(given, [0, 1, 0, 1, 2, DAMAGE, 0, 0, 8, 0, 1])

    def test_of_what_was_made(self):
        for does, amount in ((besides(GAIN, 1), 6), (instead(GAIN, 1, 9), 9)):
            calls = (effect(more(1)), effect(does), effect(HALF, kind=GAIN, may=1), batch(event()), choose(0, 1))
            self.assertEqual(last(*calls, ASK), [0, 1, 1, 1, 3, GAIN, 0, 1, amount, 0, 2, 1])

    def test_of_what_was_split_off(self):
        calls = (effect(more(1)), effect(split(1)), effect(HALF, whose=2, may=1), batch(event()), choose(0, 2))
        self.assertEqual(last(*calls, ASK), [0, 1, 1, 2, 1, 3, DAMAGE, 0, 1, 2, 0, 2])


class WhoIsAsked(unittest.TestCase):

    def test_as_the_answer_before_it_tells(self):
        given = ask(*MAYS, batch(event(), event(target=1)), ASK, choose(0, 3), ASK, decline(0, 1), ASK, decline(0, 2), ASK)[3:]
        for stands, asked in zip(given[::2], given[1::2]):
            offered = stands[3:]
            self.assertEqual(asked[:4 + len(offered)], stands[:3] + [len(offered)] + offered)

    def test_own_ones_alone(self):
        calls = (thing(), effect(TWICE), effect(more(1), source=1, own=1, may=1), effect(HALF), batch(event(source=1)))
        self.assertEqual(last(*calls, ASK), [0, 1, 0, 1, 2, DAMAGE, 1, 0, 5, 0])
        self.assertEqual(last(*calls, decline(0, 2), ASK), [0, 1, 0, 2, 1, 3, DAMAGE, 1, 0, 5, 0, 2])

    def test_asking_changes_nothing(self):
        calls = (*MAYS, batch(event()))
        self.assertEqual(ask(*calls, ASK, ASK, ASK)[-1], last(*calls, ASK))
        self.assertEqual(last(*calls, ASK, choose(0, 2)), last(*calls, choose(0, 2)))


if __name__ == "__main__":
    unittest.main()
