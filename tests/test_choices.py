import unittest

from duelevents.session import answer_call
from tests.helper import DAMAGE, DRAW, HALF, NOTHING, REST, TWICE, UNDO
from tests.helper import ask, batch, call, choose, decline, effect, effects_of, event, last, left, less, more, play, shown
from tests.helper import split, stop, thing

TWO = (effect(TWICE), effect(more(3)))
MAYS = (effect(TWICE, may=1), effect(more(3), may=1))
FAR = (-1000000000, -1, 2, 1000000000)


class WhenAsked(unittest.TestCase):

    def test_one_that_is_no_may_effect_is_used_without_asking(self):
        self.assertEqual(last(effect(TWICE), batch(event())), [0, 0])
        self.assertEqual(play(effect(TWICE), batch(event())).sides[0].life, 10)

    def test_one_may_effect_is_asked_about(self):
        self.assertEqual(last(effect(TWICE, may=1), batch(event())), [0, 1, 0, 1])
        self.assertEqual(play(effect(TWICE, may=1), batch(event())).sides[0].life, 20)

    def test_several_are_asked_about_in_order(self):
        self.assertEqual(last(*TWO, effect(HALF, may=1), batch(event(target=1))), [0, 1, 1, 1, 2, 3])

    def test_order_of_numbers_after_some_ended(self):
        calls = (*TWO, effect(HALF), stop(1), effect(TWICE), batch(event()))
        self.assertEqual(last(*calls), [0, 1, 0, 2, 3, 4])

    def test_an_event_of_amount_0_asks_nobody(self):
        self.assertEqual(last(*MAYS, batch(event(amount=0))), [0, 0])

    def test_nothing_happens_before_all_is_settled(self):
        table = play(effect(TWICE, kind=DRAW, may=1), batch(event(), event(DRAW)))
        self.assertEqual(table.sides[0].life, 20)
        self.assertEqual(left(table), [[DRAW, 0, 0, 5, 0], [DAMAGE, 0, 0, 5, 0]])

    def test_the_next_event_is_asked_about_then(self):
        calls = (*TWO, batch(event(target=1), event(target=0)), choose(1, 2), choose(0, 1))
        self.assertEqual(ask(*calls)[2:], [[0, 1, 1, 1, 2], [0, 1, 0, 1, 2], [0, 0]])
        self.assertEqual([side.life for side in play(*calls).sides], [20 - (2 * 5 + 3), 20 - 2 * (5 + 3)])


class Choose(unittest.TestCase):

    def test_the_chosen_one_is_used_first(self):
        self.assertEqual(play(*TWO, batch(event()), choose(0, 1)).sides[0].life, 20 - (2 * 5 + 3))
        self.assertEqual(play(*TWO, batch(event()), choose(0, 2)).sides[0].life, 20 - 2 * (5 + 3))

    def test_the_event_is_looked_at_again(self):
        self.assertEqual(last(*MAYS, batch(event()), choose(0, 2)), [0, 1, 0, 1])
        self.assertEqual(last(*TWO, effect(HALF), batch(event()), choose(0, 2)), [0, 1, 0, 1, 3])

    def test_a_may_effect_is_used_when_chosen(self):
        self.assertEqual(play(effect(TWICE, may=1), batch(event()), choose(0, 1)).sides[0].life, 10)

    def test_nobody_is_asked(self):
        self.assertEqual(ask(choose(0, 1)), [[-7]])
        self.assertEqual(last(*TWO, choose(0, 1)), [-7])
        self.assertEqual(last(*TWO, batch(event()), choose(0, 1), choose(0, 1)), [-7])

    def test_not_offered(self):
        for number in (0, 3) + FAR[:2] + FAR[3:]:
            self.assertEqual(last(*TWO, batch(event()), choose(0, number)), [-6], number)
        self.assertEqual(last(*TWO, effect(TWICE, kind=DRAW), batch(event()), choose(0, 3)), [-6])
        self.assertEqual(last(*MAYS, batch(event()), choose(0, 2), choose(0, 2)), [-6])

    def test_another_side_is_asked(self):
        self.assertEqual(last(*TWO, batch(event(target=0)), choose(1, 1)), [-8])
        self.assertEqual(last(*TWO, batch(event(target=1)), choose(0, 1)), [-8])
        for side in FAR:
            self.assertEqual(last(*TWO, batch(event()), choose(side, 1)), [-8], side)

    def test_refusals_in_turn(self):
        self.assertEqual(last(*TWO, choose(5, 9)), [-7])
        self.assertEqual(last(*TWO, batch(event()), choose(1, 3)), [-6])
        self.assertEqual(last(*TWO, call(4, [0])), [-1])

    def test_the_effects_own_side_does_not_choose(self):
        calls = (effect(TWICE, side=1), effect(HALF, side=1), batch(event(target=0)))
        self.assertEqual(last(*calls, choose(1, 1)), [-8])
        self.assertEqual(last(*calls, choose(0, 1)), [0, 0])


class Decline(unittest.TestCase):

    def test_it_is_not_used(self):
        self.assertEqual(ask(*MAYS, batch(event()), decline(0, 1), decline(0, 2))[2:], [[0, 1, 0, 1, 2], [0, 1, 0, 2], [0, 0]])
        self.assertEqual(play(*MAYS, batch(event()), decline(0, 1), choose(0, 2)).sides[0].life, 20 - (5 + 3))
        self.assertEqual(play(*MAYS, batch(event()), decline(0, 1), decline(0, 2)).sides[0].life, 15)

    def test_its_uses_stay(self):
        table = play(effect(TWICE, may=1, uses=1), effect([5, 4, 0, 0, 0], may=1, uses=3), batch(event()), decline(0, 1), decline(0, 2))
        self.assertEqual(effects_of(table), [[1, 1, TWICE], [2, 3, [5, 4, 0, 0, 0]]])

    def test_its_number_is_put_in_front_of_the_list(self):
        table = play(*MAYS, effect(HALF, may=1), batch(event()), decline(0, 2), decline(0, 1))
        self.assertEqual(table.batch.row[0].used, [1, 2])

    def test_it_may_be_used_on_the_next_event(self):
        calls = (effect(TWICE, may=1), batch(event(), event()), decline(0, 1), choose(0, 1))
        self.assertEqual(ask(*calls)[1:], [[0, 1, 0, 1], [0, 1, 0, 1], [0, 0]])
        self.assertEqual(play(*calls).sides[0].life, 20 - 15)
        calls = (effect(TWICE, may=1), batch(event(target=0), event(target=1)), decline(0, 1), choose(1, 1))
        self.assertEqual(ask(*calls)[1:], [[0, 1, 0, 1], [0, 1, 1, 1], [0, 0]])
        self.assertEqual([side.life for side in play(*calls).sides], [15, 10])

    def test_not_on_what_comes_of_the_event(self):
        calls = (effect(TWICE, may=1), effect(split(1)), batch(event(amount=4)), decline(0, 1))
        self.assertEqual(last(*calls), [0, 0])
        self.assertEqual([side.life for side in play(*calls).sides], [18, 18])

    def test_the_one_left_is_used_without_asking(self):
        calls = (effect(TWICE, may=1), effect(more(3)), batch(event()), decline(0, 1))
        self.assertEqual(last(*calls), [0, 0])
        self.assertEqual(play(*calls).sides[0].life, 20 - 8)

    def test_nobody_is_asked(self):
        self.assertEqual(ask(decline(0, 1)), [[-7]])
        self.assertEqual(last(*MAYS, decline(0, 1)), [-7])

    def test_not_offered(self):
        for number in (0, 3) + FAR[:2] + FAR[3:]:
            self.assertEqual(last(*MAYS, batch(event()), decline(0, number)), [-6], number)
        self.assertEqual(last(*MAYS, batch(event()), decline(0, 2), decline(0, 2)), [-6])

    def test_another_side_is_asked(self):
        self.assertEqual(last(*MAYS, batch(event(target=1)), decline(0, 1)), [-8])
        for side in (1,) + FAR:
            self.assertEqual(last(*MAYS, batch(event()), decline(side, 1)), [-8], side)

    def test_no_may_effect(self):
        self.assertEqual(last(*TWO, batch(event()), decline(0, 1)), [-9])
        self.assertEqual(last(effect(TWICE, may=1), effect(HALF), batch(event()), decline(0, 2)), [-9])

    def test_refusals_in_turn(self):
        self.assertEqual(last(*TWO, decline(5, 9)), [-7])
        self.assertEqual(last(*TWO, batch(event()), decline(1, 3)), [-6])
        self.assertEqual(last(*TWO, batch(event()), decline(1, 1)), [-8])
        self.assertEqual(last(*TWO, call(5, [0])), [-1])


class OnceOnAnEvent(unittest.TestCase):

    def test_the_list_has_the_last_one_in_front(self):
        table = play(*TWO, effect(HALF), effect(less(1)), batch(event()), choose(0, 3), choose(0, 1))
        self.assertEqual(table.batch.row[0].used, [1, 3])

    def test_each_at_most_once(self):
        calls = (effect(TWICE), effect(TWICE), effect(TWICE), batch(event(amount=1)))
        self.assertEqual(ask(*calls, choose(0, 2), choose(0, 2), choose(0, 1))[3:], [[0, 1, 0, 1, 2, 3], [0, 1, 0, 1, 3], [-6], [0, 0]])
        self.assertEqual(play(*calls, REST).sides[0].life, 20 - 8)

    def test_on_each_event_of_a_batch(self):
        self.assertEqual(play(effect(TWICE), batch(event(), event(), event())).sides[0].life, 20 - 30)


class Refusals(unittest.TestCase):

    def assert_all_refused_without_a_change(self, calls, refused):
        table = play(*calls)
        before = shown(table)
        for number, numbers, rows in refused:
            self.assertLess(answer_call(table, number, numbers, rows)[0], 0, (number, numbers, rows))
            self.assertEqual(shown(table), before, (number, numbers, rows))

    def test_while_somebody_is_asked(self):
        self.assert_all_refused_without_a_change(
            (thing(), effect(TWICE, may=1, uses=2), effect(HALF), batch(event(), event(DRAW))),
            (choose(0, 9), choose(1, 1), choose(2, 1), decline(0, 9), decline(1, 1), decline(0, 2), thing(), effect(NOTHING),
             stop(1), batch(event()), batch(), call(99), call(6, [1])),
        )

    def test_while_nobody_is_asked(self):
        self.assert_all_refused_without_a_change(
            (thing(), thing(0, 1), effect(TWICE, may=1, uses=2), effect(HALF)),
            (thing(2), effect(TWICE, source=3), effect(split(16)), effect(TWICE, source=2), stop(8), batch(event(target=20)),
             batch(*[event()] * 5), choose(0, 1), decline(0, 1), REST, UNDO, call(-1)),
        )


if __name__ == "__main__":
    unittest.main()
