import unittest

from tests.helper import COUNTERS, DAMAGE, DRAW, GAIN, HALF, KINDS, MOVE, TOKENS, TWICE, VOID
from tests.helper import REST, ask, batch, choose, decline, effect, event, last, less, more, move, play, thing, turn

NONE = [0, 0]
THINGS = (thing(0), thing(1), thing(0))


def offered(one, told, *before):
    """What is offered for the event told, where one effect stands, a may effect so that a side is asked."""
    return last(*THINGS, *before, one, batch(told))


class Kind(unittest.TestCase):

    def test_only_events_of_its_kind(self):
        told = {
            DAMAGE: event(DAMAGE), DRAW: event(DRAW), GAIN: event(GAIN), TOKENS: event(TOKENS),
            COUNTERS: event(COUNTERS, 11), MOVE: move(11, VOID),
        }
        for kind in KINDS:
            for other in KINDS:
                expected = [0, 1, 0, 1] if kind == other else NONE
                self.assertEqual(offered(effect([4, 0, 0, 0, 0], kind=kind, may=1), told[other]), expected, (kind, other))


class Aim(unittest.TestCase):

    def test_any(self):
        self.assertEqual(offered(effect(TWICE, may=1), event(target=0)), [0, 1, 0, 1])
        self.assertEqual(offered(effect(TWICE, may=1), event(target=11)), [0, 1, 0, 1])

    def test_a_side(self):
        self.assertEqual(offered(effect(TWICE, may=1, aim=1), event(target=0)), [0, 1, 0, 1])
        self.assertEqual(offered(effect(TWICE, may=1, aim=1), event(target=1)), [0, 1, 1, 1])
        self.assertEqual(offered(effect(TWICE, may=1, aim=1), event(target=11)), NONE)

    def test_a_thing(self):
        self.assertEqual(offered(effect(TWICE, may=1, aim=2), event(target=0)), NONE)
        self.assertEqual(offered(effect(TWICE, may=1, aim=2), event(target=1)), NONE)
        self.assertEqual(offered(effect(TWICE, may=1, aim=2), event(target=12)), [0, 1, 1, 1])


class Whose(unittest.TestCase):

    def test_each_side_and_each_target(self):
        for side in (0, 1):
            for target, befallen in ((0, 0), (1, 1), (11, 0), (12, 1)):
                asked = [0, 1, befallen, 1]
                told = event(target=target)
                self.assertEqual(offered(effect(TWICE, side, may=1, whose=0), told), asked)
                self.assertEqual(offered(effect(TWICE, side, may=1, whose=1), told), asked if befallen == side else NONE)
                self.assertEqual(offered(effect(TWICE, side, may=1, whose=2), told), asked if befallen != side else NONE)


class ListOfThings(unittest.TestCase):

    def test_the_target_is_one_of_these(self):
        for things in ([1], [1, 3], [3, 1], [1, 1]):
            self.assertEqual(offered(effect(TWICE, may=1, things=things), event(target=11)), [0, 1, 0, 1])

    def test_the_target_is_none_of_these(self):
        self.assertEqual(offered(effect(TWICE, may=1, things=[1, 3]), event(target=12)), NONE)

    def test_the_target_is_a_side(self):
        for target in (0, 1):
            self.assertEqual(offered(effect(TWICE, may=1, things=[1, 2, 3]), event(target=target)), NONE)


class ListOfSources(unittest.TestCase):

    def test_the_source_is_one_of_these(self):
        self.assertEqual(offered(effect(TWICE, may=1, sources=[3, 2]), event(source=2)), [0, 1, 0, 1])

    def test_the_source_is_none_of_these(self):
        self.assertEqual(offered(effect(TWICE, may=1, sources=[3, 2]), event(source=1)), NONE)

    def test_the_event_has_no_source(self):
        self.assertEqual(offered(effect(TWICE, may=1, sources=[1, 2, 3]), event()), NONE)
        self.assertEqual(offered(effect(TWICE, may=1), event()), [0, 1, 0, 1])

    def test_things_and_sources_are_not_confused(self):
        self.assertEqual(offered(effect(TWICE, may=1, things=[1], sources=[2]), event(target=11, source=2)), [0, 1, 0, 1])
        self.assertEqual(offered(effect(TWICE, may=1, things=[1], sources=[2]), event(target=12, source=1)), NONE)


class Own(unittest.TestCase):

    def test_its_source_is_the_events(self):
        self.assertEqual(offered(effect(TWICE, may=1, source=2, own=1), event(source=2)), [0, 1, 0, 1])

    def test_its_source_is_another(self):
        self.assertEqual(offered(effect(TWICE, may=1, source=2, own=1), event(source=1)), NONE)
        self.assertEqual(offered(effect(TWICE, may=1, source=2, own=1), event()), NONE)

    def test_it_has_no_source(self):
        self.assertEqual(offered(effect(TWICE, may=1, own=1), event()), NONE)
        self.assertEqual(offered(effect(TWICE, may=1, own=1), event(source=1)), NONE)

    def test_no_own_effect_looks_at_its_source(self):
        self.assertEqual(offered(effect(TWICE, may=1, source=2), event(source=1)), [0, 1, 0, 1])

    def test_own_ones_before_the_others(self):
        calls = (
            thing(), effect(TWICE), effect(more(1), source=1, own=1), effect(HALF), effect(less(1), source=1, own=1),
            batch(event(source=1)), choose(0, 4), choose(0, 1), REST,
        )
        self.assertEqual(ask(*calls)[-4:], [[0, 1, 0, 2, 4], [0, 1, 0, 1, 3], [0, 0], [-7]])

    def test_one_own_one_is_used_without_asking(self):
        calls = (thing(), effect(TWICE), effect(more(1), source=1, own=1), batch(event(source=1)))
        self.assertEqual(last(*calls), [0, 0])
        self.assertEqual(play(*calls).sides[0].life, 20 - 2 * (5 + 1))

    def test_an_own_one_that_does_not_fit_hides_no_other(self):
        self.assertEqual(last(thing(), effect(TWICE), effect(HALF), effect(more(1), own=1, source=1), batch(event())), [0, 1, 0, 1, 2])

    def test_a_declined_own_one_hides_no_other(self):
        calls = (thing(), effect(TWICE, may=1), effect(more(1), source=1, own=1, may=1), batch(event(source=1)))
        self.assertEqual(last(*calls), [0, 1, 0, 2])
        self.assertEqual(last(*calls, decline(0, 2)), [0, 1, 0, 1])


class FittingAnew(unittest.TestCase):

    def test_the_target_as_it_is_now(self):
        calls = (effect(turn(1), whose=1), effect(TWICE, whose=2), effect(HALF, whose=2), batch(event(target=0)))
        self.assertEqual(last(*calls), [0, 1, 1, 2, 3])

    def test_a_target_that_was(self):
        calls = (effect(turn(1), whose=1), effect(TWICE, whose=1), batch(event(target=0)), choose(0, 1))
        self.assertEqual(ask(*calls)[-2:], [[0, 1, 0, 1, 2], [0, 0]])
        self.assertEqual([side.life for side in play(*calls).sides], [20, 15])


if __name__ == "__main__":
    unittest.main()
