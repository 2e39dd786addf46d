import unittest

from duelevents.session import answer_call
from tests.helper import COUNTERS, DAMAGE, DRAW, FIELD, GAIN, HALF, HAND, KINDS, MOVE, NOTHING, REST, RIFT, TOKENS, TWICE, VOID
from tests.helper import ask, batch, besides, book_of, choose, decline, effect, event, instead, less, more, move, play
from tests.helper import shield, side_of, split, stop, thing, thing_of, turn


class ToSides(unittest.TestCase):

    def test_at_first(self):
        table = play(thing())
        self.assertEqual([side_of(table, side) for side in (0, 1)], [[20, 0, 0], [20, 0, 0]])

    def test_each_kind(self):
        for side in (0, 1):
            table = play(batch(event(DAMAGE, side, 3), event(DRAW, side, 5), event(GAIN, side, 1), event(TOKENS, side, 7)))
            self.assertEqual(side_of(table, side), [18, 5, 7])
            self.assertEqual(side_of(table, 1 - side), [20, 0, 0])

    def test_life_may_fall_below_0(self):
        self.assertEqual(side_of(play(batch(event(amount=25))), 0), [-5, 0, 0])

    def test_it_adds_up(self):
        table = play(*[batch(event(DRAW, 1, 2), event(TOKENS, 1, 3))] * 3)
        self.assertEqual(side_of(table, 1), [20, 6, 9])


class ToThings(unittest.TestCase):

    def test_damage_and_counters(self):
        table = play(thing(1), batch(event(DAMAGE, 11, 3), event(COUNTERS, 11, 2)), batch(event(DAMAGE, 11, 1), event(COUNTERS, 11, 4)))
        self.assertEqual(thing_of(table, 1), [1, FIELD, 4, 6])
        self.assertEqual(side_of(table, 1), [20, 0, 0])

    def test_the_thing_of_the_targets_number(self):
        table = play(*[thing()] * 16, batch(event(DAMAGE, 26, 3), event(DAMAGE, 12, 2)))
        self.assertEqual([one.damage for one in table.things], [0, 2] + [0] * 13 + [3])

    def test_a_move(self):
        for place in (FIELD, HAND, VOID, RIFT):
            for start in (FIELD, HAND, VOID, RIFT):
                self.assertEqual(thing_of(play(thing(1, start), batch(move(11, place))), 1), [1, place, 0, 0])

    def test_a_move_takes_damage_and_counters(self):
        hurt = (thing(), batch(event(DAMAGE, 11, 3), event(COUNTERS, 11, 2)))
        for place in (FIELD, HAND, VOID, RIFT):
            self.assertEqual(thing_of(play(*hurt, batch(move(11, place))), 1), [0, place, 0, 0])

    def test_nothing_to_a_thing_off_the_field(self):
        for place in (HAND, VOID, RIFT):
            table = play(thing(0, place), batch(event(DAMAGE, 11, 3), event(COUNTERS, 11, 2)))
            self.assertEqual(thing_of(table, 1), [0, place, 0, 0])
            self.assertEqual(book_of(table, DAMAGE), [3, 0, 0, 0, 0, 3])
            self.assertEqual(book_of(table, COUNTERS), [2, 0, 0, 0, 0, 2])


class Order(unittest.TestCase):

    def test_in_the_order_of_settling(self):
        table = play(thing(), batch(event(DAMAGE, 11, 3), move(11, HAND), event(DAMAGE, 11, 4)))
        self.assertEqual(thing_of(table, 1), [0, HAND, 0, 0])
        table = play(thing(0, HAND), batch(event(DAMAGE, 11, 3), move(11, FIELD), event(DAMAGE, 11, 4), event(COUNTERS, 11, 1)))
        self.assertEqual(thing_of(table, 1), [0, FIELD, 4, 1])
        table = play(thing(), batch(event(DAMAGE, 11, 3), move(11, FIELD), event(COUNTERS, 11, 4)))
        self.assertEqual(thing_of(table, 1), [0, FIELD, 0, 4])

    def test_the_last_move_counts(self):
        self.assertEqual(thing_of(play(thing(), batch(move(11, RIFT), move(11, VOID))), 1), [0, VOID, 0, 0])

    def test_made_events_happen_behind_the_one_they_came_of(self):
        back = effect(besides(MOVE, 11, 0, FIELD), kind=MOVE)
        table = play(thing(), back, batch(move(11, RIFT), event(DAMAGE, 11, 2)))
        self.assertEqual(thing_of(table, 1), [0, FIELD, 2, 0])

    def test_all_of_a_batch_together(self):
        table = play(thing(), effect(HALF, may=1, things=[1]), batch(event(), move(11, VOID), event(DAMAGE, 11)))
        self.assertEqual((side_of(table, 0), thing_of(table, 1)), ([20, 0, 0], [0, FIELD, 0, 0]))


class EndOfEffects(unittest.TestCase):

    def test_whose_source_is_not_on_the_field(self):
        for place in (HAND, VOID, RIFT):
            calls = (thing(), thing(), effect(TWICE, source=1), effect(TWICE, source=2), effect(TWICE), batch(move(11, place)))
            self.assertEqual([one.number for one in play(*calls).effects], [2, 3])
            self.assertEqual(ask(*calls, stop(1), stop(2), stop(3))[-3:], [[-6], [0], [0]])

    def test_not_when_it_is_back_by_then(self):
        table = play(thing(), effect(TWICE, source=1), batch(move(11, RIFT), move(11, FIELD)))
        self.assertEqual([one.number for one in table.effects], [1])

    def test_only_when_all_has_happened(self):
        table = play(thing(), effect(TWICE, source=1), batch(move(11, RIFT), event()))
        self.assertEqual((side_of(table, 0), table.effects), ([10, 0, 0], []))
        table = play(thing(), effect(TWICE, source=1), effect(HALF, kind=DRAW, may=1), batch(move(11, RIFT), event(DRAW)))
        self.assertEqual([one.number for one in table.effects], [1, 2])

    def test_things_in_its_rows_do_not_end_it(self):
        table = play(thing(), effect(TWICE, things=[1], sources=[1]), batch(move(11, RIFT)))
        self.assertEqual([one.number for one in table.effects], [1])

    def test_ended_by_a_batch_that_ends_by_choosing(self):
        for ending in (choose(0, 2), decline(0, 2), REST):
            table = play(thing(), effect(TWICE, source=1), effect(NOTHING, kind=DRAW, may=1), batch(move(11, VOID), event(DRAW)), ending)
            self.assertEqual([one.number for one in table.effects], [2])


class Books(unittest.TestCase):

    def assert_book(self, table, kind, told=0, made=0, added=0, cut=0, turned=0, happened=0):
        self.assertEqual(book_of(table, kind), [told, made, added, cut, turned, happened])

    def test_at_first(self):
        for kind in KINDS:
            self.assert_book(play(thing()), kind)

    def test_told_and_happened(self):
        table = play(thing(), batch(event(amount=3), event(DRAW, 1, 4), move(11, VOID), event(amount=2)), batch(event(DRAW, 0, 1)))
        self.assert_book(table, DAMAGE, told=5, happened=5)
        self.assert_book(table, DRAW, told=5, happened=5)
        self.assert_book(table, MOVE, told=1, happened=1)
        self.assert_book(table, GAIN)

    def test_told_but_not_yet_happened(self):
        table = play(effect(TWICE, may=1), batch(event(DRAW), event(), event(TOKENS)))
        self.assert_book(table, DAMAGE, told=5)
        self.assert_book(table, DRAW, told=5)
        self.assert_book(table, TOKENS, told=5)

    def test_added(self):
        self.assert_book(play(effect(more(3)), batch(event())), DAMAGE, told=5, added=3, happened=8)
        self.assert_book(play(effect(TWICE), batch(event())), DAMAGE, told=5, added=5, happened=10)

    def test_cut(self):
        for does, cut in ((less(3), 3), (less(9), 5), (HALF, 3), (NOTHING, 5), (shield(2), 2), (shield(9), 5)):
            self.assert_book(play(effect(does), batch(event())), DAMAGE, told=5, cut=cut, happened=5 - cut)
        self.assert_book(play(thing(), effect(NOTHING, kind=MOVE), batch(move(11, VOID))), MOVE, told=1, cut=1)

    def test_turned_and_made(self):
        table = play(effect(instead(GAIN, 0, 7)), batch(event()))
        self.assert_book(table, DAMAGE, told=5, turned=5)
        self.assert_book(table, GAIN, made=7, happened=7)
        table = play(effect(besides(GAIN, 0)), batch(event()))
        self.assert_book(table, DAMAGE, told=5, happened=5)
        self.assert_book(table, GAIN, made=5, happened=5)
        table = play(thing(), effect(besides(MOVE, 11, 0, VOID)), batch(event()))
        self.assert_book(table, MOVE, made=1, happened=1)
        table = play(effect(instead(DAMAGE, 0)), batch(event()))
        self.assert_book(table, DAMAGE, told=5, made=5, turned=5, happened=5)

    def test_turning_and_splitting_are_not_told_in_it(self):
        table = play(effect(turn(1)), effect(split(0)), batch(event()), REST)
        self.assert_book(table, DAMAGE, told=5, happened=5)

    def test_a_refused_batch_is_not_told(self):
        table = play(thing())
        for events in ([event(), event(target=12)], [event()] * 5, [event(), event(amount=-1)]):
            self.assertLess(answer_call(table, 3, [], events)[0], 0)
        self.assert_book(table, DAMAGE)


if __name__ == "__main__":
    unittest.main()
