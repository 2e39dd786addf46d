import copy
import random
import unittest

from duelevents.session import answer_call
from duelevents.tables import Table
from tests.helper import COUNTERS, DAMAGE, HALF, KINDS, MOVE, NOTHING, REST, TWICE, UNDO
from tests.helper import ask, batch, besides, book_of, choose, decline, effect, elsewhere, event, instead, left, less, more, move
from tests.helper import shield, shown, split, stop, thing, turn


class RandomLines:
    """Lines of calls out of a seed; most calls are ones that aren't refused."""

    def __init__(self, seed):
        self.random = random.Random(seed)

    def pick(self, *values):
        return self.random.choice(values)

    def target(self):
        return self.pick(0, 1, 0, 1, 11, 12, 13)

    def suited(self, kind):
        if kind in (COUNTERS, MOVE):
            return self.pick(11, 12, 13)
        return self.target() if kind == DAMAGE else self.pick(0, 1)

    def does(self, kind):
        k = self.pick(*KINDS)
        made = (k, self.suited(k), 0 if k == MOVE else self.pick(0, 0, 3), self.pick(0, 1, 2, 3) if k == MOVE else 0)
        if kind == MOVE:
            return self.pick(NOTHING, elsewhere(self.pick(0, 1, 2, 3)), instead(*made), besides(*made))
        n = self.random.randint(1, 9)
        x = self.suited(kind)
        return self.pick(less(n), more(n), TWICE, HALF, NOTHING, shield(n), turn(x), split(x), instead(*made), besides(*made))

    def effect(self):
        kind = self.pick(0, 0, 0, 1, 2, 3, 4, 5)
        rows = ((), (), (), (), (), (), (1,), (2, 3))
        return effect(
            self.does(kind), side=self.pick(0, 1), source=self.pick(0, 0, 0, 0, 1, 2, 3), kind=kind, aim=self.pick(0, 0, 0, 0, 0, 1, 2),
            whose=self.pick(0, 0, 0, 0, 1, 2), own=self.pick(0, 0, 0, 0, 1), may=self.pick(0, 1), uses=self.pick(0, 0, 0, 1, 2),
            things=self.pick(*rows), sources=self.pick(*rows),
        )

    def event(self):
        kind = self.pick(0, 0, 0, 1, 2, 3, 4, 5)
        if kind == MOVE:
            return move(self.suited(kind), self.pick(0, 0, 1, 2), self.pick(0, 1, 2, 3))
        return event(kind, self.suited(kind), self.random.randint(0, 20), self.pick(0, 1, 2, 3))

    def batch(self):
        return batch(*[self.event() for turn_number in range(self.random.randint(1, 4))])

    def choice(self, answer):
        """One of the calls that are due where the answer told who is asked about what."""
        return self.pick(choose, choose, decline)(answer[2], self.pick(*answer[3:]))

    def calls(self, length):
        calls = [thing(0), thing(1), thing(0)]
        for turn_number in range(length):
            calls.append(self.pick(self.effect(), self.effect(), self.batch(), stop(self.random.randint(1, 12)), REST))
        return calls


def told(table, one):
    return answer_call(table, one[0], one[1], one[2])


def stands(table):
    return [0, 1, table.befallen_side(table.batch.row[0].target)] + [one.number for one in table.batch.offered]


class WhateverWasChosen(unittest.TestCase):

    def taken_back(self, lines, start):
        """A batch, choices and an undo; nothing where the batch happens before it can be taken back."""
        table = copy.deepcopy(start)
        calls = [lines.batch()]
        told(table, calls[0])
        while table.batch is not None and lines.pick(True, True, True, False):
            calls.append(lines.choice(stands(table)))
            told(table, calls[-1])
        if table.batch is None:
            return []
        self.assertEqual(told(table, UNDO), [0])
        self.assertEqual(shown(table), shown(start))
        return calls + [UNDO]

    def test_the_calls_that_follow_answer_as_if_the_batch_had_never_been(self):
        taken_back = 0
        for seed in range(200):
            lines = RandomLines(seed)
            calls = lines.calls(60)
            longer, kept = [], []
            table = Table()
            for one in calls:
                if table.batch is None:
                    more_calls = self.taken_back(lines, table)
                    longer += more_calls
                    taken_back += len(more_calls) > 0
                kept.append(len(longer))
                longer.append(one)
                told(table, one)
            given = ask(*longer)
            self.assertEqual([given[position] for position in kept], ask(*calls), seed)
        self.assertGreater(taken_back, 1000)


class AtAnyTime(unittest.TestCase):

    def assert_books_agree(self, table):
        for kind in KINDS:
            book = book_of(table, kind)
            amounts = [one[3] for one in left(table) if one[0] == kind]
            self.assertEqual(sum(book[:3]), sum(book[3:]) + sum(amounts))

    def test_nothing_is_lost_and_every_choice_offered_is_taken(self):
        asked = 0
        for seed in range(200, 400):
            lines = RandomLines(seed)
            table = Table()
            for one in lines.calls(60):
                told(table, one)
                self.assert_books_agree(table)
                while table.batch is not None and lines.pick(True, False):
                    asked += 1
                    self.assertGreater(len(table.batch.offered), 0)
                    for offered in table.batch.offered:
                        tried = told(copy.deepcopy(table), choose(stands(table)[2], offered.number))
                        self.assertEqual(tried[0], 0)
                    told(table, lines.choice(stands(table)))
                    self.assert_books_agree(table)
            if table.batch is not None:
                self.assertEqual(told(table, REST), [0, 0])
        self.assertGreater(asked, 1000)


if __name__ == "__main__":
    unittest.main()
