import unittest

from tests.helper import ASK, COUNTERS, DAMAGE, FIELD, HALF, HAND, MOVE, NOTHING, REST, TWICE, UNDO, VOID
from tests.helper import ask, batch, choose, effect, event, last, look, move, own, show_side, thing

FAR = (-1000000000, -1, 1000000000)


class TheThingsSide(unittest.TestCase):

    def test_it_is_that_sides(self):
        for first in (0, 1):
            for side in (0, 1):
                for place in (FIELD, HAND, VOID):
                    self.assertEqual(ask(thing(first, place), own(1, side), look(1))[1:], [[0], [0, side, place, 0, 0]])

    def test_there_and_back(self):
        self.assertEqual(ask(thing(0), own(1, 1), look(1), own(1, 0), look(1))[1:], [[0], [0, 1, 0, 0, 0], [0], [0, 0, 0, 0, 0]])

    def test_no_other_thing(self):
        given = ask(thing(0), thing(0), thing(0), own(2, 1), look(1), look(2), look(3))[4:]
        self.assertEqual([answer[1] for answer in given], [0, 1, 0])

    def test_its_damage_and_counters_stay(self):
        calls = (thing(0), batch(event(DAMAGE, 11, 3), event(COUNTERS, 11, 4)), own(1, 1), look(1))
        self.assertEqual(last(*calls), [0, 1, FIELD, 3, 4])

    def test_effects_of_it_stay(self):
        calls = (thing(0), effect(TWICE, source=1), own(1, 1), batch(event()), show_side(0))
        self.assertEqual(last(*calls), [0, 10, 0, 0])


class WhatAnEventToItBefalls(unittest.TestCase):

    def test_whom_it_asks(self):
        calls = (thing(0), effect(TWICE), effect(HALF), own(1, 1), batch(event(target=11)))
        self.assertEqual(last(*calls), [0, 1, 1, 1, 2])
        self.assertEqual(last(*calls, ASK), [0, 1, 1, 2, 1, 2, DAMAGE, 0, 11, 5, 0])
        self.assertEqual(last(*calls, choose(0, 1)), [-8])
        self.assertEqual(last(*calls, choose(1, 1)), [0, 0])

    def test_whose(self):
        for whose, asked in ((1, [0, 0]), (2, [0, 1, 1, 1])):
            calls = (thing(0), effect(TWICE, side=0, whose=whose, may=1), own(1, 1), batch(event(target=11)))
            self.assertEqual(last(*calls), asked)
        for whose, asked in ((1, [0, 1, 1, 1]), (2, [0, 0])):
            calls = (thing(0), effect(TWICE, side=1, whose=whose, may=1), own(1, 1), batch(event(target=11)))
            self.assertEqual(last(*calls), asked)

    def test_a_move(self):
        calls = (thing(1), effect(NOTHING, kind=MOVE, may=1), own(1, 0), batch(move(11, VOID)))
        self.assertEqual(last(*calls), [0, 1, 0, 1])

    def test_it_stays_that_sides_after_a_move_and_an_undo(self):
        self.assertEqual(last(thing(0), own(1, 1), batch(move(11, VOID)), look(1)), [0, 1, VOID, 0, 0])
        self.assertEqual(last(thing(0), effect(TWICE, may=1), own(1, 1), batch(event()), UNDO, look(1)), [0, 1, FIELD, 0, 0])


class Refusals(unittest.TestCase):

    def test_somebody_is_asked(self):
        calls = (thing(0), effect(TWICE, may=1), batch(event(target=11)))
        self.assertEqual(ask(*calls, own(1, 1), look(1), ASK)[3:], [[-2], [0, 0, 0, 0, 0], [0, 1, 0, 1, 1, DAMAGE, 0, 11, 5, 0]])
        self.assertEqual(ask(*calls, REST, own(1, 1))[-1], [0])
        self.assertEqual(ask(*calls, UNDO, own(1, 1))[-1], [0])

    def test_asked_before_no_such_thing_or_side(self):
        calls = (thing(0), effect(TWICE, may=1), batch(event(target=11)))
        for one in (own(2, 1), own(0, 1), own(1, 2), own(-1, -1)):
            self.assertEqual(last(*calls, one), [-2], one)

    def test_no_such_thing(self):
        for t in FAR + (0, 3, 11, 12):
            self.assertEqual(last(thing(), thing(), own(t, 1)), [-4], t)
        self.assertEqual(last(own(1, 0)), [-4])

    def test_no_such_side(self):
        for side in FAR + (2, 11):
            self.assertEqual(ask(thing(1), own(1, side), look(1))[1:], [[-4], [0, 1, 0, 0, 0]], side)

    def test_neither(self):
        self.assertEqual(ask(thing(0), own(2, 2), own(0, -1), look(1))[1:], [[-4], [-4], [0, 0, 0, 0, 0]])


if __name__ == "__main__":
    unittest.main()
