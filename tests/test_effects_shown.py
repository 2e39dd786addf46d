import unittest

from tests.helper import COUNTERS, DRAW, EFFECTS, GAIN, HALF, MOVE, NOTHING, REST, TOKENS, TWICE, VOID
from tests.helper import ask, batch, besides, by, choose, decline, effect, elsewhere, event, instead, last, less, more
from tests.helper import move, own, shield, split, stop, thing, turn


def shown(*calls):
    """What the call effects answers behind these, an effect a row."""
    answer = last(*calls, EFFECTS)
    if answer[0] != 0:
        raise AssertionError(f"effects is answered {answer}")
    return by(7, answer[1:])


def numbers_and_uses(*calls):
    return [[row[0], row[4]] for row in shown(*calls)]


class EffectsCall(unittest.TestCase):

    def test_none(self):
        self.assertEqual(ask(EFFECTS), [[0]])
        self.assertEqual(last(effect(TWICE), stop(1), EFFECTS), [0])

    def test_each_of_its_numbers(self):
        calls = (thing(), thing(), thing(), effect(more(8), side=1, source=3, kind=COUNTERS, aim=2, whose=2, own=1, may=1, uses=9))
        self.assertEqual(last(*calls, EFFECTS), [0, 1, 1, 3, COUNTERS, 9, 1, 8])

    def test_the_first_two_numbers_of_what_it_does(self):
        for does in (less(4), more(4), TWICE, HALF, NOTHING, shield(4), turn(11), split(1), instead(GAIN, 1, 9), besides(TOKENS, 1, 9)):
            self.assertEqual(shown(thing(), effect(does)), [[1, 0, 0, 0, 0] + does[:2]])
        for does in (NOTHING, elsewhere(3), instead(MOVE, 11, 0, 2), besides(MOVE, 11, 0, 2)):
            self.assertEqual(shown(thing(), effect(does, kind=MOVE)), [[1, 0, 0, MOVE, 0] + does[:2]])

    def test_several_in_order(self):
        calls = (effect(TWICE), effect(less(1), side=1, kind=DRAW), effect(shield(3), uses=2))
        self.assertEqual(last(*calls, EFFECTS), [0, 1, 0, 0, 0, 0, 2, 0, 2, 1, 0, 1, 0, 0, 1, 3, 0, 0, 0, 2, 5, 3])

    def test_numbers_do_not_come_again(self):
        calls = [effect(TWICE), effect(HALF), effect(NOTHING)]
        self.assertEqual([row[0] for row in shown(*calls, stop(2))], [1, 3])
        self.assertEqual([row[0] for row in shown(*calls, stop(3), effect(TWICE))], [1, 2, 4])
        self.assertEqual([row[0] for row in shown(*calls, stop(1), stop(2), stop(3), effect(TWICE))], [4])

    def test_twelve(self):
        self.assertEqual(shown(*[effect(less(n)) for n in range(12)]), [[n + 1, 0, 0, 0, 0, 0, n] for n in range(12)])

    def test_an_effects_side_stays_when_its_source_is_the_other_sides(self):
        self.assertEqual(shown(thing(0), effect(TWICE, source=1), own(1, 1)), [[1, 0, 1, 0, 0, 2, 0]])


class UsesAndEnds(unittest.TestCase):

    def test_one_less_after_a_use(self):
        self.assertEqual(numbers_and_uses(effect(TWICE, uses=3), batch(event())), [[1, 2]])
        self.assertEqual(numbers_and_uses(effect(TWICE, uses=3), batch(event(), event())), [[1, 1]])
        self.assertEqual(numbers_and_uses(effect(TWICE, uses=3), batch(event(), event(), event())), [])

    def test_without_end(self):
        self.assertEqual(numbers_and_uses(effect(TWICE), batch(event(), event())), [[1, 0]])

    def test_while_somebody_is_asked(self):
        calls = (effect(TWICE, uses=2), effect(more(1), uses=1), effect(HALF, uses=4, may=1), batch(event()))
        self.assertEqual(numbers_and_uses(*calls), [[1, 2], [2, 1], [3, 4]])
        self.assertEqual(numbers_and_uses(*calls, choose(0, 1)), [[1, 1], [2, 1], [3, 4]])
        self.assertEqual(numbers_and_uses(*calls, choose(0, 2), choose(0, 1)), [[1, 1], [3, 4]])

    def test_declining_is_no_use(self):
        self.assertEqual(numbers_and_uses(effect(TWICE, uses=1, may=1), batch(event()), decline(0, 1)), [[1, 1]])

    def test_ended_with_its_source(self):
        calls = (thing(), effect(TWICE, source=1), effect(HALF), batch(move(11, VOID)))
        self.assertEqual(numbers_and_uses(*calls), [[2, 0]])

    def test_not_ended_with_its_source_before_all_has_happened(self):
        calls = (thing(), effect(TWICE, source=1), effect(HALF), batch(move(11, VOID), event()))
        self.assertEqual(numbers_and_uses(*calls), [[1, 0], [2, 0]])
        self.assertEqual(numbers_and_uses(*calls, REST), [[2, 0]])


class ShieldsRest(unittest.TestCase):

    def test_as_it_is_now(self):
        calls = (effect(shield(9)), batch(event(amount=4)))
        self.assertEqual(shown(*calls), [[1, 0, 0, 0, 0, 5, 5]])
        self.assertEqual(shown(*calls, batch(event(amount=4))), [[1, 0, 0, 0, 0, 5, 1]])
        self.assertEqual(shown(*calls, batch(event(amount=5))), [])

    def test_while_somebody_is_asked(self):
        calls = (effect(shield(9)), effect(HALF, may=1), batch(event(amount=4), event(target=1, amount=5)))
        self.assertEqual(shown(*calls), [[1, 0, 0, 0, 0, 5, 9], [2, 0, 0, 0, 0, 3, 0]])
        self.assertEqual(shown(*calls, choose(0, 1)), [[1, 0, 0, 0, 0, 5, 5], [2, 0, 0, 0, 0, 3, 0]])
        self.assertEqual(shown(*calls, choose(0, 2)), [[1, 0, 0, 0, 0, 5, 7], [2, 0, 0, 0, 0, 3, 0]])
        self.assertEqual(shown(*calls, choose(0, 1), choose(1, 1)), [[2, 0, 0, 0, 0, 3, 0]])

    def test_with_uses(self):
        self.assertEqual(shown(effect(shield(9), uses=2), batch(event(amount=4))), [[1, 0, 0, 0, 1, 5, 5]])


if __name__ == "__main__":
    unittest.main()
