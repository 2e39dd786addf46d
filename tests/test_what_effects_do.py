import unittest

from tests.helper import COUNTERS, DAMAGE, DRAW, FIELD, GAIN, HALF, HAND, MOVE, NOTHING, REST, RIFT, TOKENS, TWICE, VOID
from tests.helper import batch, besides, choose, effect, effects_of, elsewhere, event, instead, last, left, less, more
from tests.helper import move, play, shield, side_of, split, stop, thing, thing_of, turn

AMOUNTED = ((DAMAGE, 0), (DRAW, 1), (GAIN, 0), (COUNTERS, 11), (TOKENS, 1))


def settled(does, told, *before):
    """What the event told has become, and what was made of it, when all but a halt is settled."""
    halt = effect(NOTHING, kind=DRAW, may=1, sources=[2])
    table = play(thing(0), thing(1), *before, effect(does, kind=told[0]), halt, batch(told, event(DRAW, 1, 1, 2)))
    return left(table)[1:]


class Amounts(unittest.TestCase):

    def assert_amounts(self, does, pairs):
        for kind, target in AMOUNTED:
            for amount, expected in pairs:
                became = [event(kind, target, expected)] if expected else []
                self.assertEqual(settled(does, event(kind, target, amount)), became, (does, kind, amount))

    def test_less(self):
        self.assert_amounts(less(3), ((5, 2), (4, 1), (3, 0), (2, 0), (1000000, 999997)))
        self.assert_amounts(less(0), ((5, 5), (1, 1)))
        self.assert_amounts(less(1000000), ((1000000, 0), (1, 0)))

    def test_more(self):
        self.assert_amounts(more(3), ((5, 8), (1, 4), (1000000, 1000003)))
        self.assert_amounts(more(0), ((5, 5),))
        self.assert_amounts(more(1000000), ((1000000, 2000000),))

    def test_nothing_is_added_to_an_event_of_amount_0(self):
        self.assert_amounts(more(3), ((0, 0),))

    def test_twice(self):
        self.assert_amounts(TWICE, ((5, 10), (1, 2), (1000000, 2000000)))

    def test_half(self):
        self.assert_amounts(HALF, ((5, 2), (4, 2), (1, 0), (2, 1), (999999, 499999)))

    def test_nothing(self):
        self.assert_amounts(NOTHING, ((5, 0), (1, 0), (1000000, 0)))

    def test_shield(self):
        self.assert_amounts(shield(3), ((5, 2), (4, 1), (3, 0), (2, 0)))
        self.assert_amounts(shield(1000000), ((1000000, 0),))

    def test_nothing_of_a_move(self):
        self.assertEqual(settled(NOTHING, move(11, VOID)), [])
        self.assertEqual(thing_of(play(thing(), effect(NOTHING, kind=MOVE), batch(move(11, VOID))), 1), [0, FIELD, 0, 0])


class Shields(unittest.TestCase):

    def test_its_rest_is_less_by_what_was_taken(self):
        table = play(effect(shield(7)), batch(event(amount=3)))
        self.assertEqual(effects_of(table), [[1, 0, shield(4)]])
        self.assertEqual(table.sides[0].life, 20)

    def test_it_ends_when_its_rest_is_0(self):
        for amount in (7, 8):
            calls = (effect(shield(7)), batch(event(amount=amount)))
            self.assertEqual(effects_of(play(*calls)), [])
            self.assertEqual(last(*calls, stop(1)), [-6])

    def test_over_several_events_and_batches(self):
        table = play(effect(shield(7)), batch(event(amount=3), event(amount=2)), batch(event(amount=6), event(amount=6)))
        self.assertEqual(table.sides[0].life, 20 - 4 - 6)
        self.assertEqual(table.effects, [])

    def test_it_ends_when_its_uses_do(self):
        table = play(effect(shield(7), uses=2), batch(event(amount=1)))
        self.assertEqual(effects_of(table), [[1, 1, shield(6)]])
        table = play(effect(shield(7), uses=2), batch(event(amount=1), event(amount=1)))
        self.assertEqual(effects_of(table), [])

    def test_its_rest_may_end_it_before_its_uses_do(self):
        self.assertEqual(effects_of(play(effect(shield(2), uses=9), batch(event(amount=5)))), [])


class Uses(unittest.TestCase):

    def test_without_end(self):
        table = play(effect(TWICE), *[batch(event(amount=1))] * 5)
        self.assertEqual(effects_of(table), [[1, 0, TWICE]])
        self.assertEqual(table.sides[0].life, 10)

    def test_one_less_each_time(self):
        calls = (effect(TWICE, uses=3), batch(event(amount=1)))
        self.assertEqual(effects_of(play(*calls)), [[1, 2, TWICE]])
        self.assertEqual(effects_of(play(*calls, batch(event(amount=1)))), [[1, 1, TWICE]])
        self.assertEqual(effects_of(play(*calls, batch(event(amount=1), event(amount=1)))), [])

    def test_none_left_within_a_batch(self):
        self.assertEqual(play(effect(TWICE, uses=2), batch(event(), event(), event())).sides[0].life, 20 - 25)

    def test_used_up_where_nothing_is_changed(self):
        for does in (less(0), more(0), turn(0), split(1)):
            table = play(effect(does, uses=1), batch(event(amount=1), event(amount=1)))
            self.assertEqual(effects_of(table), [], does)
            self.assertEqual([side.life for side in table.sides], [18, 20], does)

    def test_an_ended_one_is_not_offered_for_what_follows(self):
        calls = (effect(TWICE, uses=1), effect(HALF), batch(event(), event()), choose(0, 1))
        self.assertEqual(last(*calls), [0, 0])
        self.assertEqual(play(*calls).sides[0].life, 20 - 5 - 2)


class Targets(unittest.TestCase):

    def test_turn(self):
        self.assertEqual(settled(turn(1), event(DAMAGE, 0, 5, 1)), [event(DAMAGE, 1, 5, 1)])
        self.assertEqual(settled(turn(12), event(DAMAGE, 0)), [event(DAMAGE, 12)])
        self.assertEqual(settled(turn(0), event(DAMAGE, 12)), [event(DAMAGE, 0)])
        self.assertEqual(settled(turn(0), event(TOKENS, 1)), [event(TOKENS, 0)])
        self.assertEqual(settled(turn(12), event(COUNTERS, 11)), [event(COUNTERS, 12)])

    def test_turn_back_and_forth(self):
        calls = (effect(turn(1)), effect(turn(0)), batch(event(target=0)))
        self.assertEqual([side.life for side in play(*calls, choose(0, 1)).sides], [15, 20])
        self.assertEqual([side.life for side in play(*calls, choose(0, 2)).sides], [20, 15])

    def test_split(self):
        for amount, kept, half in ((5, 3, 2), (4, 2, 2), (2, 1, 1), (3, 2, 1), (1000000, 500000, 500000)):
            self.assertEqual(settled(split(1), event(DAMAGE, 0, amount, 1)), [event(DAMAGE, 0, kept, 1), event(DAMAGE, 1, half, 1)])

    def test_nothing_is_split_off_where_the_half_is_0(self):
        self.assertEqual(settled(split(1), event(DAMAGE, 0, 1)), [event(DAMAGE, 0, 1)])

    def test_then_no_event_of_amount_0_stands_behind(self):
        table = play(effect(split(1)), effect(HALF, may=1), batch(event(amount=1)), choose(0, 1))
        self.assertEqual(left(table), [event(amount=1)])
        self.assertEqual(table.batch.row[0].used, [1])

    def test_split_of_other_kinds(self):
        self.assertEqual(settled(split(1), event(GAIN, 0, 5)), [event(GAIN, 0, 3), event(GAIN, 1, 2)])
        self.assertEqual(settled(split(12), event(COUNTERS, 11, 5)), [event(COUNTERS, 11, 3), event(COUNTERS, 12, 2)])

    def test_the_event_split_off_has_the_same_list(self):
        table = play(effect(more(1), may=1), effect(split(1)), effect(HALF, may=1, aim=1), batch(event()), choose(0, 1), choose(0, 2))
        self.assertEqual([one.used for one in table.batch.row], [[2, 1], [2, 1]])


class Making(unittest.TestCase):

    def test_instead(self):
        self.assertEqual(settled(instead(GAIN, 1), event(DAMAGE, 0, 5, 1)), [event(GAIN, 1, 5, 1)])
        self.assertEqual(settled(instead(GAIN, 1, 7), event(DAMAGE, 0, 5, 1)), [event(GAIN, 1, 7, 1)])
        self.assertEqual(settled(instead(DAMAGE, 11, 1), event(DAMAGE, 0)), [event(DAMAGE, 11, 1)])
        self.assertEqual(settled(instead(COUNTERS, 12), event(TOKENS, 0)), [event(COUNTERS, 12)])

    def test_a_move_instead(self):
        self.assertEqual(settled(instead(MOVE, 11, 0, RIFT), event(DAMAGE, 0, 5, 2)), [move(11, RIFT, 2)])
        self.assertEqual(settled(instead(MOVE, 12, 0, HAND), move(11, VOID)), [move(12, HAND)])

    def test_something_instead_of_a_move(self):
        self.assertEqual(settled(instead(TOKENS, 0), move(11, VOID, 1)), [event(TOKENS, 0, 1, 1)])
        self.assertEqual(settled(instead(TOKENS, 0, 4), move(11, VOID)), [event(TOKENS, 0, 4)])

    def test_besides(self):
        self.assertEqual(settled(besides(GAIN, 1), event(DAMAGE, 0, 5, 1)), [event(DAMAGE, 0, 5, 1), event(GAIN, 1, 5, 1)])
        self.assertEqual(settled(besides(GAIN, 1, 7), event(DAMAGE, 0)), [event(DAMAGE, 0), event(GAIN, 1, 7)])
        self.assertEqual(settled(besides(MOVE, 11, 0, RIFT), event(DAMAGE, 0)), [event(DAMAGE, 0), move(11, RIFT)])
        self.assertEqual(settled(besides(DAMAGE, 0), move(12, RIFT, 2)), [move(12, RIFT, 2), event(DAMAGE, 0, 1, 2)])

    def test_what_is_made_is_looked_at_by_its_own_kind(self):
        calls = (effect(instead(GAIN, 1)), effect(TWICE, kind=GAIN), effect(TWICE), batch(event()), choose(0, 1))
        self.assertEqual(side_of(play(*calls), 1), [30, 0, 0])
        self.assertEqual(side_of(play(*calls), 0), [20, 0, 0])

    def test_not_again_on_what_comes_of_it(self):
        table = play(effect(besides(DAMAGE, 1)), batch(event()))
        self.assertEqual([side.life for side in table.sides], [15, 15])
        table = play(effect(instead(GAIN, 0)), effect(instead(DAMAGE, 0), kind=GAIN), batch(event()))
        self.assertEqual([side.life for side in table.sides], [15, 20])

    def test_what_is_made_has_the_same_list(self):
        table = play(effect(more(1), may=1), effect(besides(GAIN, 1)), effect(HALF, may=1), batch(event()), choose(0, 1), choose(0, 2))
        self.assertEqual([one.used for one in table.batch.row], [[2, 1], [2, 1]])

    def test_the_list_goes_on_apart(self):
        table = play(effect(besides(DAMAGE, 1)), effect(HALF, may=1), effect(more(1), may=1), batch(event()), choose(0, 1), choose(0, 3))
        self.assertEqual([one.used for one in table.batch.row], [[3, 1], [1]])


class Places(unittest.TestCase):

    def test_elsewhere(self):
        for place in (FIELD, HAND, VOID, RIFT):
            self.assertEqual(settled(elsewhere(place), move(11, VOID)), [move(11, place)])
            self.assertEqual(thing_of(play(thing(), effect(elsewhere(place), kind=MOVE), batch(move(11, VOID))), 1), [0, place, 0, 0])


class OrderOfEvents(unittest.TestCase):

    def test_made_ones_stand_directly_behind(self):
        made = (effect(besides(GAIN, 0, 7)), effect(besides(GAIN, 1, 9)), effect(HALF, may=1))
        table = play(*made, batch(event(), event(DRAW)), choose(0, 1), choose(0, 2))
        self.assertEqual(left(table), [event(), event(GAIN, 1, 9), event(GAIN, 0, 7), event(DRAW)])

    def test_split_ones_stand_directly_behind(self):
        made = (effect(split(1)), effect(split(11)), effect(HALF, may=1))
        table = play(thing(), *made, batch(event(amount=8), event(DRAW)), choose(0, 1), choose(0, 2))
        self.assertEqual(left(table), [event(amount=2), event(DAMAGE, 11, 2), event(DAMAGE, 1, 4), event(DRAW)])

    def test_they_settle_in_that_order(self):
        made = (effect(besides(GAIN, 0, 7)), effect(besides(GAIN, 1, 9)), effect(HALF, kind=DRAW, may=1))
        table = play(*made, batch(event(), event(DRAW)), choose(0, 2))
        self.assertEqual(left(table), [event(DRAW), event(), event(GAIN, 0, 7), event(GAIN, 1, 9)])

    def test_what_stands_instead_comes_before_the_next(self):
        table = play(effect(instead(GAIN, 0, 7)), effect(HALF, kind=DRAW, may=1), batch(event(), event(DRAW), event(TOKENS)))
        self.assertEqual(left(table), [event(DRAW), event(TOKENS), event(GAIN, 0, 7)])


class Rest(unittest.TestCase):

    def test_the_least_number_is_chosen_again_and_again(self):
        self.assertEqual(play(effect(TWICE), effect(more(3)), batch(event()), REST).sides[0].life, 20 - 13)
        self.assertEqual(play(effect(more(3)), effect(TWICE), batch(event()), REST).sides[0].life, 20 - 16)
        self.assertEqual(play(effect(less(1), may=1), effect(HALF), effect(more(3), may=1), batch(event()), REST).sides[0].life, 15)

    def test_answers(self):
        self.assertEqual(last(effect(TWICE), effect(HALF), batch(event()), REST), [0, 0])

    def test_nobody_is_asked(self):
        self.assertEqual(last(REST), [-7])
        self.assertEqual(last(effect(TWICE), effect(HALF), batch(event()), REST, REST), [-7])

    def test_goes_on_from_where_it_stands(self):
        calls = (effect(TWICE), effect(more(3)), effect(HALF), batch(event(), event(target=1)), choose(0, 2), REST)
        self.assertEqual([side.life for side in play(*calls).sides], [20 - 8, 20 - 6])

    def test_many_that_split(self):
        calls = [effect(split(number % 2)) for number in range(5)] + [effect(more(1)) for number in range(7)]
        calls += [batch(*[event(amount=1000000)] * 4), REST]
        self.assertEqual(last(*calls), [0, 0])
        table = play(*calls)
        self.assertEqual(sum(20 - side.life for side in table.sides), 4000000 + 4 * 32 * 7)

    def test_many_that_make_events(self):
        calls = [effect(besides(DAMAGE, number % 2)) for number in range(5)] + [effect(TWICE) for number in range(7)]
        calls += [batch(*[event(amount=1000000)] * 4), REST]
        self.assertEqual(last(*calls), [0, 0])
        self.assertEqual(sum(20 - side.life for side in play(*calls).sides), 4000000 * 32 * 128)

    def test_many_that_make_others_in_a_ring(self):
        calls = [effect(besides((kind + 1) % 3, 0), kind=kind) for kind in (0, 1, 2, 0, 1)]
        calls += [effect(instead((kind + 2) % 3, 1), kind=kind) for kind in (0, 1, 2, 0, 1, 2, 0)]
        self.assertEqual(last(*calls, batch(event(), event(DRAW), event(GAIN), event()), REST), [0, 0])


if __name__ == "__main__":
    unittest.main()
