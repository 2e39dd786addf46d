import copy
import random
import unittest

from duelevents.tables import Table
from tests.helper import ASK, COUNTERS, DAMAGE, HALF, KINDS, LEFT, MOVE, NOTHING, REST, TWICE, UNDO
from tests.helper import all_shown, ask, batch, besides, book, by, choose, decline, effect, elsewhere, event, instead, less, more
from tests.helper import move, own, play, shield, shown, split, stop, thing, told, turn


class RandomLines:
    """Lines of calls out of a seed; most calls are ones that aren't refused."""

    def __init__(self, seed):
        self.random = random.Random(seed)

    def pick(self, *values):
        return self.random.choice(values)

    def target(self):
        return self.pick(0, 1, 0, 1, 11, 12, 13)

    def suited(self, kind):
        if kind in (COUNTERS, MOVE):
            return self.pick(11, 12, 13)
        return self.target() if kind == DAMAGE else self.pick(0, 1)

    def does(self, kind):
        k = self.pick(*KINDS)
        made = (k, self.suited(k), 0 if k == MOVE else self.pick(0, 0, 3), self.pick(0, 1, 2, 3) if k == MOVE else 0)
        if kind == MOVE:
            return self.pick(NOTHING, elsewhere(self.pick(0, 1, 2, 3)), instead(*made), besides(*made))
        n = self.random.randint(1, 9)
        x = self.suited(kind)
        return self.pick(less(n), more(n), TWICE, HALF, NOTHING, shield(n), turn(x), split(x), instead(*made), besides(*made))

    def effect(self):
        kind = self.pick(0, 0, 0, 1, 2, 3, 4, 5)
        rows = ((), (), (), (), (), (), (1,), (2, 3))
        return effect(
            self.does(kind), side=self.pick(0, 1), source=self.pick(0, 0, 0, 0, 1, 2, 3), kind=kind, aim=self.pick(0, 0, 0, 0, 0, 1, 2),
            whose=self.pick(0, 0, 0, 0, 1, 2), own=self.pick(0, 0, 0, 0, 1), may=self.pick(0, 1), uses=self.pick(0, 0, 0, 1, 2),
            things=self.pick(*rows), sources=self.pick(*rows),
        )

    def event(self):
        kind = self.pick(0, 0, 0, 1, 2, 3, 4, 5)
        if kind == MOVE:
            return move(self.suited(kind), self.pick(0, 0, 1, 2), self.pick(0, 1, 2, 3))
        return event(kind, self.suited(kind), self.random.randint(0, 20), self.pick(0, 1, 2, 3))

    def batch(self):
        return batch(*[self.event() for turn_number in range(self.random.randint(1, 4))])

    def choice(self, answer):
        """One of the calls that are due where the answer told who is asked about what."""
        return self.pick(choose, choose, decline)(answer[2], self.pick(*answer[3:]))

    def calls(self, length):
        calls = [thing(0), thing(1), thing(0)]
        for turn_number in range(length):
            calls.append(self.pick(self.single(), self.single(), self.single(), self.single(), REST))
        return calls

    def single(self):
        rare = self.pick(stop(self.random.randint(1, 12)), own(self.pick(1, 2, 3), self.pick(0, 1)))
        return self.pick(self.effect(), self.effect(), self.batch(), rare)

    def line(self, length):
        """Calls one behind another, where most of what is asked is answered by a choice."""
        calls = [thing(0), thing(1), thing(0)]
        table = play(*calls)
        for turn_number in range(length):
            asked = table.batch is not None
            calls.append(self.pick(*[self.choice(stands(table))] * 12, UNDO, REST, self.single()) if asked else self.single())
            told(table, calls[-1])
        return calls


def stands(table):
    """Who is asked, and what is offered, as the call ask tells it."""
    answer = told(table, ASK)
    return answer[:3] + answer[4:4 + answer[3]]


class WhateverWasChosen(unittest.TestCase):

    def taken_back(self, lines, start):
        """A batch, choices and an undo; nothing where the batch happens before it can be taken back."""
        table = copy.deepcopy(start)
        calls = [lines.batch()]
        told(table, calls[0])
        while table.batch is not None and lines.pick(True, True, True, False):
            calls.append(lines.choice(stands(table)))
            told(table, calls[-1])
        if table.batch is None:
            return []
        self.assertEqual(told(table, UNDO), [0])
        self.assertEqual(shown(table), shown(start))
        return calls + [UNDO]

    def test_the_calls_that_follow_answer_as_if_the_batch_had_never_been(self):
        taken_back = 0
        for seed in range(200):
            lines = RandomLines(seed)
            calls = lines.calls(60)
            longer, kept = [], []
            table = Table()
            for one in calls:
                if table.batch is None:
                    more_calls = self.taken_back(lines, table)
                    longer += more_calls
                    taken_back += len(more_calls) > 0
                kept.append(len(longer))
                longer.append(one)
                told(table, one)
            given = ask(*longer)
            self.assertEqual([given[position] for position in kept], ask(*calls), seed)
        self.assertGreater(taken_back, 1000)

    def test_all_that_can_be_seen_is_as_before(self):
        shows = all_shown(3)
        taken_back = 0
        for seed in range(700, 900):
            lines = RandomLines(seed)
            before = lines.line(40)
            table = Table()
            for one in before:
                told(table, one)
            if table.batch is not None:
                before.append(UNDO)
                told(table, UNDO)
            for turn_number in range(5):
                calls = self.taken_back(lines, table)
                taken_back += len(calls) > 0
                given = ask(*before, *shows, *calls, *shows)
                first = len(before)
                self.assertEqual(given[-len(shows):], given[first:first + len(shows)], seed)
        self.assertGreater(taken_back, 200)


BOOKS_AND_LEFT = [book(kind) for kind in KINDS] + [LEFT]


class AtAnyTime(unittest.TestCase):

    def assert_books_agree(self, answers, where):
        """By what the six books and left answer."""
        rows = by(5, answers[6][1:])
        for kind in KINDS:
            numbers = answers[kind][1:]
            amounts = [row[3] for row in rows if row[0] == kind]
            self.assertEqual(sum(numbers[:3]), sum(numbers[3:]) + sum(amounts), where)
            self.assertGreaterEqual(min(numbers), 0, where)

    def test_nothing_is_lost(self):
        while_asked = 0
        for seed in range(200, 400):
            calls = RandomLines(seed).line(45)
            given = ask(*[each for one in calls for each in [one] + BOOKS_AND_LEFT])
            for position, answers in enumerate(by(8, given)):
                self.assert_books_agree(answers[1:], (seed, position))
                while_asked += len(answers[7]) > 1
        self.assertGreater(while_asked, 1000)

    def test_nothing_is_lost_over_four_hundred_calls(self):
        for seed in range(900, 920):
            table = Table()
            for position, one in enumerate(RandomLines(seed).line(397)):
                told(table, one)
                self.assert_books_agree([told(table, shows) for shows in BOOKS_AND_LEFT], (seed, position))

    def test_left_is_empty_where_nobody_is_asked_and_else_begins_with_the_event_asked_about(self):
        for seed in range(400, 450):
            calls = RandomLines(seed).line(100)
            given = ask(*[each for one in calls for each in (one, ASK, LEFT)])
            for answer, asked, left in by(3, given):
                if asked == [0, 0]:
                    self.assertEqual(left, [0])
                else:
                    start = 4 + asked[3]
                    self.assertEqual(left[1:6], asked[start:start + 5])
                    self.assertGreater(left[4], 0)

    def test_every_choice_offered_is_taken_and_rest_comes_to_an_end(self):
        asked = 0
        for seed in range(500, 700):
            lines = RandomLines(seed)
            table = Table()
            for one in lines.calls(60):
                told(table, one)
                while table.batch is not None and lines.pick(True, False):
                    asked += 1
                    offered = stands(table)[3:]
                    self.assertGreater(len(offered), 0)
                    for number in offered:
                        self.assertEqual(told(copy.deepcopy(table), choose(stands(table)[2], number))[0], 0)
                    self.assertEqual(told(copy.deepcopy(table), REST), [0, 0])
                    told(table, lines.choice(stands(table)))
            if table.batch is not None:
                self.assertEqual(told(table, REST), [0, 0])
                self.assertEqual(told(table, ASK), [0, 0])
        self.assertGreater(asked, 1000)


if __name__ == "__main__":
    unittest.main()
