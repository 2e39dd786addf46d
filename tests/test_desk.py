import unittest

from duelevents.desk import answers
from tests.helper import NOTHING, REST, TWICE, UNDO, ask, batch, call, choose, decline, effect, event, flat, last, stop, thing

TWICE_DAMAGE = [1, 8, 0, 0, 0, 0, 0, 0, 0, 0, 3, 0, 0, 5, 2, 0, 0, 0, 0]
FIVE_DAMAGE = [3, 0, 1, 5, 0, 0, 1, 5, 0]


class Interface(unittest.TestCase):

    def test_the_documents_examples(self):
        self.assertEqual(answers(TWICE_DAMAGE + FIVE_DAMAGE), [2, 0, 1, 2, 0, 0])
        self.assertEqual(answers(TWICE_DAMAGE), [2, 0, 1])
        self.assertEqual(answers(FIVE_DAMAGE), [2, 0, 0])

    def test_what_is_handed_in_is_not_changed(self):
        calls = flat([
            thing(), effect([5, 9, 0, 0, 0], source=1, things=[1], sources=[1]), effect(TWICE, may=1),
            batch(event(target=11, source=1), event()), decline(0, 2), UNDO, batch(event(), event()), choose(0, 2), REST,
        ])
        before = list(calls)
        answers(calls)
        self.assertEqual(calls, before)

    def test_it_gives_back_a_new_list_of_whole_numbers(self):
        calls = flat([thing(), effect(TWICE), effect(NOTHING), batch(event()), REST, stop(9)])
        given = answers(calls)
        self.assertIs(type(given), list)
        self.assertEqual({type(number) for number in given}, {int})
        self.assertEqual(given, [2, 0, 1, 2, 0, 1, 2, 0, 2, 5, 0, 1, 0, 1, 2, 2, 0, 0, 1, -6])

    def test_nothing_is_kept_from_one_time_to_the_next(self):
        calls = flat([thing(), effect(TWICE), effect(NOTHING), batch(event())])
        first = answers(calls)
        self.assertEqual(answers(calls), first)
        self.assertEqual(answers(flat([stop(1)])), [1, -6])
        self.assertEqual(answers(flat([REST])), [1, -7])
        self.assertEqual(answers(flat([thing(1, 3)])), [2, 0, 1])

    def test_four_hundred_calls(self):
        given = ask(*[batch(event()) for turn in range(400)])
        self.assertEqual(given, [[0, 0]] * 400)


class OtherCalls(unittest.TestCase):

    def test_another_number(self):
        for number in (-1000000000, -1, 15, 16, 255, 1000000000):
            for numbers, rows in (([], []), ([0, 0], []), ([1], [[]]), ([], [[0, 0, 1, 5, 0]])):
                self.assertEqual(ask(call(number, numbers, rows)), [[-1]], (number, numbers, rows))

    def test_what_follows_a_call_that_is_none_is_answered(self):
        self.assertEqual(ask(call(99, [1, 2, 3], [[1], [], [2, 3]]), thing(), call(-5), thing()), [[-1], [0, 1], [-1], [0, 2]])

    def test_too_few_and_too_many_numbers(self):
        good = (thing(), effect(TWICE), stop(1), batch(event()), choose(0, 1), decline(0, 1), REST, UNDO)
        for number, numbers, rows in good:
            self.assertEqual(last(call(number, numbers + [0], rows)), [-1], number)
            self.assertEqual(last(call(number, numbers + [0] * 40, rows)), [-1], number)
            if numbers:
                self.assertEqual(last(call(number, numbers[:-1], rows)), [-1], number)
                self.assertEqual(last(call(number, [], rows)), [-1], number)

    def test_too_few_and_too_many_rows(self):
        for number, numbers, rows in (thing(), effect(TWICE), stop(1), choose(0, 1), decline(0, 1), REST, UNDO):
            self.assertEqual(last(call(number, numbers, rows + [[]])), [-1], number)
            self.assertEqual(last(call(number, numbers, rows + [[0, 0, 0, 0, 0]])), [-1], number)
            if rows:
                self.assertEqual(last(call(number, numbers, rows[1:])), [-1], number)
                self.assertEqual(last(call(number, numbers, [])), [-1], number)

    def test_the_form_is_looked_at_before_all_else(self):
        asked = (effect(TWICE), effect(TWICE), batch(event()))
        for number, numbers, rows in (thing(), effect(TWICE), stop(1), batch(event()), choose(0, 1), decline(0, 1), REST, UNDO):
            self.assertEqual(last(*asked, call(number, numbers + [0], rows)), [-1], number)
            self.assertEqual(last(call(number, numbers + [0], rows)), [-1], number)

    def test_a_call_that_is_none_changes_nothing(self):
        given = ask(effect(TWICE), effect(TWICE), batch(event()), call(6, [0]), call(7, [], [[]]), call(4, [0, 1, 0]), REST)
        self.assertEqual(given[2:], [[0, 1, 0, 1, 2], [-1], [-1], [-1], [0, 0]])


if __name__ == "__main__":
    unittest.main()
