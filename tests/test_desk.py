import unittest

from duelevents.desk import answers
from tests.helper import ASK, EFFECTS, LEFT, NOTHING, REST, TWICE, UNDO, all_shown, ask, batch, book, call, choose, decline, effect
from tests.helper import event, flat, last, look, own, play, show_side, shown, stop, thing, told

TWICE_DAMAGE = [1, 8, 0, 0, 0, 0, 0, 0, 0, 0, 3, 0, 0, 5, 2, 0, 0, 0, 0]
FIVE_DAMAGE = [3, 0, 1, 5, 0, 0, 1, 5, 0]

SHOWING = (ASK, show_side(0), look(1), EFFECTS, book(0), LEFT)
ALL_CALLS = (thing(), effect(TWICE), stop(1), batch(event()), choose(0, 1), decline(0, 1), REST, UNDO, *SHOWING, own(1, 1))


class Interface(unittest.TestCase):

    def test_the_documents_examples(self):
        self.assertEqual(answers(TWICE_DAMAGE + FIVE_DAMAGE), [2, 0, 1, 2, 0, 0])
        self.assertEqual(answers(TWICE_DAMAGE), [2, 0, 1])
        self.assertEqual(answers(FIVE_DAMAGE), [2, 0, 0])

    def test_what_is_handed_in_is_not_changed(self):
        calls = flat([
            thing(), effect([5, 9, 0, 0, 0], source=1, things=[1], sources=[1]), effect(TWICE, may=1),
            batch(event(target=11, source=1), event()), decline(0, 2), *SHOWING, UNDO, batch(event(), event()), choose(0, 2),
            *SHOWING, REST, own(1, 1), *SHOWING,
        ])
        before = list(calls)
        first = answers(calls)
        self.assertEqual(calls, before)
        self.assertEqual(answers(calls), first)
        self.assertEqual(calls, before)

    def test_what_is_given_back_is_the_callers(self):
        calls = flat([effect(TWICE), *SHOWING])
        first = answers(calls)
        kept = list(first)
        first.clear()
        self.assertEqual(answers(calls), kept)

    def test_it_gives_back_a_new_list_of_whole_numbers(self):
        calls = flat([thing(), effect(TWICE), effect(NOTHING), batch(event()), REST, stop(9)])
        given = answers(calls)
        self.assertIs(type(given), list)
        self.assertEqual({type(number) for number in given}, {int})
        self.assertEqual(given, [2, 0, 1, 2, 0, 1, 2, 0, 2, 5, 0, 1, 0, 1, 2, 2, 0, 0, 1, -6])

    def test_how_the_showing_calls_stand_in_the_list(self):
        asked = TWICE_DAMAGE + TWICE_DAMAGE + [0, 2, 1, 0, 0] + FIVE_DAMAGE
        given = [2, 0, 1, 2, 0, 2, 2, 0, 1, 5, 0, 1, 1, 1, 2]
        self.assertEqual(answers(asked + [8, 0, 0]), given + [11, 0, 1, 1, 2, 1, 2, 0, 0, 1, 5, 0])
        self.assertEqual(answers(asked + [9, 1, 1, 0]), given + [4, 0, 20, 0, 0])
        self.assertEqual(answers(asked + [10, 1, 1, 0]), given + [5, 0, 1, 0, 0, 0])
        self.assertEqual(answers(asked + [11, 0, 0]), given + [15, 0, 1, 0, 0, 0, 0, 2, 0, 2, 0, 0, 0, 0, 2, 0])
        self.assertEqual(answers(asked + [12, 1, 0, 0]), given + [7, 0, 5, 0, 0, 0, 0, 0])
        self.assertEqual(answers(asked + [13, 0, 0]), given + [6, 0, 0, 0, 1, 5, 0])
        self.assertEqual(answers(asked + [14, 2, 1, 0, 0]), given + [1, -2])
        self.assertEqual(answers([0, 2, 1, 0, 0, 14, 2, 1, 0, 0, 10, 1, 1, 0]), [2, 0, 1, 1, 0, 5, 0, 0, 0, 0, 0])
        self.assertEqual(answers([8, 0, 0, 11, 0, 0, 13, 0, 0, 9, 1, 2, 0]), [2, 0, 0, 1, 0, 1, 0, 1, -4])

    def test_nothing_is_kept_from_one_time_to_the_next(self):
        calls = flat([thing(), effect(TWICE), effect(NOTHING), batch(event())])
        first = answers(calls)
        self.assertEqual(answers(calls), first)
        self.assertEqual(ask(*all_shown(1)), [[0, 0], [0, 20, 0, 0], [0, 20, 0, 0], [0], [0], [-4]] + [[0, 0, 0, 0, 0, 0, 0]] * 6)
        self.assertEqual(answers(flat([stop(1)])), [1, -6])
        self.assertEqual(answers(flat([REST])), [1, -7])
        self.assertEqual(answers(flat([thing(1, 3)])), [2, 0, 1])

    def test_four_hundred_calls(self):
        given = ask(*[batch(event()) for turn in range(399)], show_side(0))
        self.assertEqual(given, [[0, 0]] * 399 + [[0, 20 - 399 * 5, 0, 0]])

    def test_showing_changes_nothing(self):
        for before in ((), (thing(), effect(TWICE)), (thing(), effect(TWICE, may=1), batch(event(), event()), choose(0, 1))):
            table = play(*before)
            first = shown(table)
            for one in all_shown(3) + [show_side(2), book(6)]:
                told(table, one)
                self.assertEqual(shown(table), first, one)


class OtherCalls(unittest.TestCase):

    def test_another_number(self):
        for number in (-1000000000, -1, 15, 16, 255, 1000000000):
            for numbers, rows in (([], []), ([0, 0], []), ([1], [[]]), ([], [[0, 0, 1, 5, 0]])):
                self.assertEqual(ask(call(number, numbers, rows)), [[-1]], (number, numbers, rows))

    def test_what_follows_a_call_that_is_none_is_answered(self):
        self.assertEqual(ask(call(99, [1, 2, 3], [[1], [], [2, 3]]), thing(), call(-5), thing()), [[-1], [0, 1], [-1], [0, 2]])

    def test_too_few_and_too_many_numbers(self):
        for number, numbers, rows in ALL_CALLS:
            self.assertEqual(last(call(number, numbers + [0], rows)), [-1], number)
            self.assertEqual(last(call(number, numbers + [0] * 40, rows)), [-1], number)
            if numbers:
                self.assertEqual(last(call(number, numbers[:-1], rows)), [-1], number)
                self.assertEqual(last(call(number, [], rows)), [-1], number)

    def test_too_few_and_too_many_rows(self):
        for number, numbers, rows in [one for one in ALL_CALLS if one[0] != 3]:
            self.assertEqual(last(call(number, numbers, rows + [[]])), [-1], number)
            self.assertEqual(last(call(number, numbers, rows + [[0, 0, 0, 0, 0]])), [-1], number)
            if rows:
                self.assertEqual(last(call(number, numbers, rows[1:])), [-1], number)
                self.assertEqual(last(call(number, numbers, [])), [-1], number)

    def test_the_form_is_looked_at_before_all_else(self):
        asked = (effect(TWICE), effect(TWICE), batch(event()))
        for number, numbers, rows in ALL_CALLS:
            self.assertEqual(last(*asked, call(number, numbers + [0], rows)), [-1], number)
            self.assertEqual(last(call(number, numbers + [0], rows)), [-1], number)
        for number, numbers in ((9, [9]), (10, [9]), (12, [9]), (14, [9, 9])):
            self.assertEqual(last(*asked, call(number, numbers, [[]])), [-1], number)
            self.assertEqual(last(call(number, numbers, [[]])), [-1], number)

    def test_a_call_that_is_none_changes_nothing(self):
        given = ask(effect(TWICE), effect(TWICE), batch(event()), call(6, [0]), call(7, [], [[]]), call(4, [0, 1, 0]), REST)
        self.assertEqual(given[2:], [[0, 1, 0, 1, 2], [-1], [-1], [-1], [0, 0]])
        things = (thing(0), thing(1), effect(TWICE, may=1, uses=2), effect([5, 9, 0, 0, 0]))
        for before in (things, (*things, batch(event(), event(target=12)), choose(0, 2))):
            table = play(*before)
            first = shown(table)
            for number, numbers, rows in ALL_CALLS:
                self.assertEqual(told(table, call(number, numbers + [1], rows)), [-1], number)
                self.assertEqual(told(table, call(number, numbers, rows + [[0]])), [-1], number)
                self.assertEqual(shown(table), first, number)
            self.assertEqual([told(table, one) for one in all_shown(2)], ask(*before, *all_shown(2))[len(before):])


if __name__ == "__main__":
    unittest.main()
