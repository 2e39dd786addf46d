import unittest

from tests.helper import COUNTERS, DRAW, GAIN, HALF, HAND, KINDS, MOVE, NOTHING, REST, TOKENS, TWICE, UNDO, VOID
from tests.helper import all_shown, ask, batch, besides, book_of, choose, decline, effect, effects_of, elsewhere, event, instead
from tests.helper import last, less, more, move, own, play, shield, shown, split, stop, thing, turn


class UndoCall(unittest.TestCase):

    def test_answers(self):
        self.assertEqual(ask(effect(TWICE), effect(HALF), batch(event()), UNDO, UNDO)[-2:], [[0], [-7]])

    def test_nobody_is_asked(self):
        self.assertEqual(last(UNDO), [-7])
        self.assertEqual(last(effect(TWICE), batch(event()), UNDO), [-7])
        self.assertEqual(last(effect(TWICE), effect(HALF), batch(event()), REST, UNDO), [-7])

    def test_calls_are_taken_again(self):
        asked = (effect(TWICE), effect(HALF), batch(event()))
        self.assertEqual(ask(*asked, UNDO, thing(), effect(TWICE), stop(1), batch(event(DRAW)))[-4:], [[0, 1], [0, 3], [0], [0, 0]])
        for refused in (choose(0, 1), decline(0, 1), REST):
            self.assertEqual(last(*asked, UNDO, refused), [-7])


class AsBefore(unittest.TestCase):

    def test_uses(self):
        before = (effect(TWICE, uses=1), effect(HALF, uses=2), effect(NOTHING, may=1, uses=1), effect(less(1), may=1))
        again = (*before, batch(event(amount=9)), choose(0, 1), choose(0, 2), UNDO)
        self.assertEqual(effects_of(play(*again)), effects_of(play(*before)))
        self.assertEqual(last(*again, batch(event())), [0, 1, 0, 1, 2, 3, 4])
        self.assertEqual(last(*again, stop(1)), [0])

    def test_uses_of_an_effect_used_without_asking(self):
        before = (effect(TWICE, kind=DRAW, uses=1), effect(HALF, may=1))
        self.assertEqual(last(*before, batch(event(DRAW), event()), UNDO, stop(1)), [0])

    def test_a_shields_rest(self):
        before = (effect(shield(5)), effect(shield(3)), effect(HALF, may=1))
        again = (*before, batch(event(amount=4), event(amount=9)), choose(0, 1), choose(0, 2), choose(0, 1), UNDO)
        self.assertEqual(effects_of(play(*again)), [[1, 0, shield(5)], [2, 0, shield(3)], [3, 0, HALF]])
        self.assertEqual(last(*again, batch(event())), [0, 1, 0, 1, 2, 3])

    def test_declined_ones_are_offered_again(self):
        before = (effect(TWICE, may=1), effect(HALF, may=1))
        self.assertEqual(last(*before, batch(event()), decline(0, 1), UNDO, batch(event())), [0, 1, 0, 1, 2])

    def test_how_many_effects_there_are(self):
        before = [effect(TWICE, uses=1)] * 12 + [batch(event()), choose(0, 3)]
        self.assertEqual(ask(*before, UNDO, effect(TWICE))[-1], [-3])
        self.assertEqual(ask(*before, REST, effect(TWICE))[-1], [0, 13])

    def test_the_book(self):
        halt = effect(HALF, kind=DRAW, may=1)
        before = (batch(event()), effect(TWICE), effect(besides(GAIN, 0)), effect(instead(TOKENS, 1), may=1), halt)
        table = play(*before, batch(event(), event(DRAW)), choose(0, 1), choose(0, 2), choose(0, 3), UNDO)
        for kind in KINDS:
            self.assertEqual(book_of(table, kind), book_of(play(*before), kind), kind)

    def assert_as_before(self, before, *batch_and_choices):
        """By the interface alone: all that can be seen is the same ahead of the batch and behind the undo."""
        shows = all_shown(3)
        given = ask(*before, *shows, *batch_and_choices, UNDO, *shows)
        self.assertEqual([answer[0] for answer in given if answer[0] != 0], [])
        first = len(before)
        self.assertEqual(given[-len(shows):], given[first:first + len(shows)])
        self.assertNotEqual(ask(*before, *batch_and_choices, *shows)[-len(shows):], given[-len(shows):])

    def test_all_that_the_calls_show(self):
        halt = effect(HALF, kind=DRAW, may=1)
        told = batch(event(amount=9), event(DRAW, 1))
        for does in (less(2), more(2), TWICE, HALF, NOTHING, shield(4), shield(40), turn(1), split(13), instead(GAIN, 0), besides(TOKENS, 1, 3)):
            for uses in (0, 1, 2):
                before = (thing(0), thing(1), thing(0), batch(event(COUNTERS, 11, 3), event(), event(target=12)), own(3, 1))
                self.assert_as_before((*before, effect(does, uses=uses), halt), told)
                self.assert_as_before((*before, effect(does, uses=uses, may=1), halt), told, choose(0, 1))
                self.assert_as_before((*before, effect(does, uses=uses, may=1), halt), told, decline(0, 1))

    def test_moves_settled_but_not_happened(self):
        before = (thing(0), thing(1), thing(0), batch(event(target=11, amount=4)), effect(TWICE, source=1, uses=3))
        before += (effect(elsewhere(HAND), kind=MOVE, uses=1), effect(more(1), source=2, may=1))
        told = batch(move(11, VOID), move(12, VOID), event(amount=8), event())
        self.assert_as_before(before, told)
        self.assert_as_before(before, told, choose(0, 1))
        self.assert_as_before(before, told, choose(0, 1), choose(0, 3), choose(0, 1))
        self.assert_as_before(before, told, decline(0, 3), choose(0, 1))

    def test_twice_in_a_row(self):
        before = (effect(shield(5)), effect(TWICE, may=1, uses=1), effect(HALF, may=1))
        once = (batch(event(amount=9)), choose(0, 1), UNDO)
        other = (batch(event(amount=9), event()), choose(0, 2), UNDO)
        self.assertEqual(shown(play(*before, *once, *other, *once)), shown(play(*before)))

    def test_only_the_last_batch_is_taken_back(self):
        before = (effect(shield(5)), effect(TWICE, may=1, uses=2), batch(event()), choose(0, 2))
        table = play(*before, batch(event()), UNDO)
        self.assertEqual(table.sides[0].life, 15)
        self.assertEqual(shown(table), shown(play(*before)))


if __name__ == "__main__":
    unittest.main()
