import unittest

from tests.helper import COUNTERS, DAMAGE, DRAW, FIELD, GAIN, HAND, REST, RIFT, TOKENS, TWICE, VOID
from tests.helper import ask, batch, effect, event, last, look, move, own, show_side, thing

SIDES = (show_side(0), show_side(1))
ASKED = (effect(TWICE), effect(TWICE))


class SideCall(unittest.TestCase):

    def test_at_first(self):
        self.assertEqual(ask(*SIDES), [[0, 20, 0, 0], [0, 20, 0, 0]])

    def test_each_kind(self):
        for kind, first, other in ((DAMAGE, 17, 20), (GAIN, 23, 20)):
            self.assertEqual(ask(batch(event(kind, 0, 3)), *SIDES)[1:], [[0, first, 0, 0], [0, other, 0, 0]])
            self.assertEqual(ask(batch(event(kind, 1, 3)), *SIDES)[1:], [[0, other, 0, 0], [0, first, 0, 0]])
        self.assertEqual(ask(batch(event(DRAW, 0, 3)), *SIDES)[1:], [[0, 20, 3, 0], [0, 20, 0, 0]])
        self.assertEqual(ask(batch(event(DRAW, 1, 3)), *SIDES)[1:], [[0, 20, 0, 0], [0, 20, 3, 0]])
        self.assertEqual(ask(batch(event(TOKENS, 0, 3)), *SIDES)[1:], [[0, 20, 0, 3], [0, 20, 0, 0]])
        self.assertEqual(ask(batch(event(TOKENS, 1, 3)), *SIDES)[1:], [[0, 20, 0, 0], [0, 20, 0, 3]])

    def test_all_at_once_and_again(self):
        told = batch(event(DAMAGE, 1, 9), event(DRAW, 1, 2), event(GAIN, 1, 1), event(TOKENS, 1, 5))
        self.assertEqual(ask(told, *SIDES, told, *SIDES), [
            [0, 0], [0, 20, 0, 0], [0, 12, 2, 5], [0, 0], [0, 20, 0, 0], [0, 4, 4, 10]])

    def test_life_at_0_and_below(self):
        self.assertEqual(last(batch(event(amount=20)), show_side(0)), [0, 0, 0, 0])
        self.assertEqual(last(batch(event(amount=21)), show_side(0)), [0, -1, 0, 0])
        self.assertEqual(last(batch(event(target=1, amount=1000000)), show_side(1)), [0, -999980, 0, 0])

    def test_not_before_all_has_happened(self):
        calls = (*ASKED, batch(event(DRAW, 0, 2), event(DAMAGE, 0, 3)), show_side(0), REST, show_side(0))
        self.assertEqual(ask(*calls)[3:], [[0, 20, 0, 0], [0, 0], [0, 8, 2, 0]])

    def test_another_side(self):
        for p in (-1000000000, -1, 2, 11, 1000000000):
            self.assertEqual(last(show_side(p)), [-4], p)
            self.assertEqual(last(thing(), *ASKED, batch(event()), show_side(p)), [-4], p)


class LookCall(unittest.TestCase):

    def test_each_side_and_place(self):
        for side in (0, 1):
            for place in (FIELD, HAND, VOID, RIFT):
                self.assertEqual(last(thing(side, place), look(1)), [0, side, place, 0, 0])

    def test_damage_and_counters(self):
        calls = (thing(1), thing(0), batch(event(DAMAGE, 11, 3), event(COUNTERS, 11, 7), event(COUNTERS, 12, 2)), look(1), look(2))
        self.assertEqual(ask(*calls)[3:], [[0, 1, FIELD, 3, 7], [0, 0, FIELD, 0, 2]])

    def test_after_a_move(self):
        calls = (thing(1), batch(event(DAMAGE, 11, 3), event(COUNTERS, 11, 7)))
        for place in (FIELD, HAND, VOID, RIFT):
            self.assertEqual(last(*calls, batch(move(11, place)), look(1)), [0, 1, place, 0, 0])

    def test_off_the_field(self):
        for place in (HAND, VOID, RIFT):
            self.assertEqual(last(thing(0, place), batch(event(DAMAGE, 11, 3), event(COUNTERS, 11, 7)), look(1)), [0, 0, place, 0, 0])

    def test_after_it_became_the_other_sides(self):
        calls = (thing(1), batch(event(DAMAGE, 11, 3), event(COUNTERS, 11, 7)), own(1, 0), look(1))
        self.assertEqual(last(*calls), [0, 0, FIELD, 3, 7])

    def test_not_before_all_has_happened(self):
        calls = (thing(), *ASKED, batch(move(11, VOID), event()), look(1), REST, look(1))
        self.assertEqual(ask(*calls)[4:], [[0, 0, FIELD, 0, 0], [0, 0], [0, 0, VOID, 0, 0]])

    def test_sixteen_things(self):
        things = [thing(number % 2, number % 4) for number in range(16)]
        given = ask(*things, *[look(number) for number in range(1, 17)])[16:]
        self.assertEqual(given, [[0, number % 2, number % 4, 0, 0] for number in range(16)])
        self.assertEqual(last(*things, look(17)), [-4])

    def test_no_such_thing(self):
        for t in (-1000000000, -2, -1, 0, 3, 11, 17, 1000000000):
            self.assertEqual(last(thing(), thing(), look(t)), [-4], t)
            self.assertEqual(last(thing(), thing(), *ASKED, batch(event()), look(t)), [-4], t)
        self.assertEqual(last(look(1)), [-4])


if __name__ == "__main__":
    unittest.main()
