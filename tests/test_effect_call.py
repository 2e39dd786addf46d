import unittest

from tests.helper import COUNTERS, DAMAGE, DRAW, GAIN, HALF, HAND, KINDS, MOVE, NOTHING, RIFT, TOKENS, TWICE, VOID
from tests.helper import ask, batch, besides, call, effect, elsewhere, event, instead, last, less, more, move
from tests.helper import shield, split, stop, thing, turn

ASKED = (effect(TWICE), effect(TWICE), batch(event()))
ALL_THINGS = [thing(number % 2) for number in range(16)]
MOST = 1000000


def with_number(place, number):
    numbers = [0, 0, 0, 0, 0, 0, 0, 0]
    numbers[place] = number
    return call(1, numbers, [[], [], list(NOTHING)])


def answer_of(does, kind=DAMAGE, things=16):
    return last(*ALL_THINGS[:things], effect(does, kind=kind))


class Numbers(unittest.TestCase):

    def test_numbered_from_one(self):
        self.assertEqual(ask(effect(TWICE), effect(HALF), effect(less(0))), [[0, 1], [0, 2], [0, 3]])

    def test_a_refused_effect_has_no_number(self):
        self.assertEqual(ask(effect(TWICE, side=2), effect(TWICE, source=1), effect(TWICE)), [[-1], [-4], [0, 1]])

    def test_ranges(self):
        for place, most in enumerate((1, 16, 5, 2, 2, 1, 1, MOST)):
            for number in (-1, most + 1, -1000000000, 1000000000):
                self.assertEqual(last(*ALL_THINGS, with_number(place, number)), [-1], (place, number))
            for number in (0, most):
                self.assertEqual(last(*ALL_THINGS, with_number(place, number)), [0, 1], (place, number))


class RowsOfThings(unittest.TestCase):

    def test_ranges(self):
        for rows in ("things", "sources"):
            for row in ([0], [17], [-1], [1, 17], [16, 0], [1000000000], [1] * 17, list(range(1, 17)) + [1], [1] * 50):
                self.assertEqual(last(*ALL_THINGS, effect(TWICE, **{rows: row})), [-1], (rows, row))
            for row in ([], [1], [16], [1, 16], [2, 2], [1] * 16, list(range(1, 17))):
                self.assertEqual(last(*ALL_THINGS, effect(TWICE, **{rows: row})), [0, 1], (rows, row))

    def test_things_that_are_not_there(self):
        self.assertEqual(last(thing(), effect(TWICE, things=[1], sources=[1])), [0, 1])
        self.assertEqual(last(thing(), effect(TWICE, things=[1, 2])), [-4])
        self.assertEqual(last(thing(), effect(TWICE, sources=[2, 1])), [-4])
        self.assertEqual(last(effect(TWICE, things=[16])), [-4])

    def test_things_in_rows_need_not_be_on_the_field(self):
        self.assertEqual(last(thing(0, RIFT), effect(TWICE, things=[1], sources=[1])), [0, 1])


class Source(unittest.TestCase):

    def test_a_source_that_is_not_there(self):
        self.assertEqual(last(effect(TWICE, source=1)), [-4])
        self.assertEqual(last(thing(), effect(TWICE, source=2)), [-4])
        self.assertEqual(last(thing(), effect(TWICE, source=1)), [0, 1])

    def test_a_source_that_is_not_on_the_field(self):
        for place in (1, 2, 3):
            self.assertEqual(last(thing(0, place), effect(TWICE, source=1)), [-5])
        self.assertEqual(last(thing(), batch(move(11, VOID)), effect(TWICE, source=1)), [-5])
        self.assertEqual(last(thing(0, HAND), batch(move(11, 0)), effect(TWICE, source=1)), [0, 1])

    def test_own_without_a_source_is_not_refused(self):
        self.assertEqual(last(effect(TWICE, own=1)), [0, 1])


class FormOfWhatItDoes(unittest.TestCase):

    def test_not_five_numbers(self):
        for row in ([], [2], [2, 0, 0, 0], [2, 0, 0, 0, 0, 0], [0] * 50):
            self.assertEqual(answer_of(row), [-1], row)

    def test_no_such_form(self):
        for form in (-1, 11, 12, 1000000000, -1000000000):
            self.assertEqual(answer_of([form, 0, 0, 0, 0]), [-1], form)

    def test_zeros_where_the_form_has_them(self):
        for row in (less(1), more(1), shield(1), turn(1), split(1)):
            for place in (2, 3, 4):
                for number in (1, -1):
                    self.assertEqual(answer_of(row[:place] + [number] + row[place + 1:]), [-1], (row, place))
        for row in (TWICE, HALF, NOTHING):
            for place in (1, 2, 3, 4):
                self.assertEqual(answer_of(row[:place] + [1] + row[place + 1:]), [-1], (row, place))
        for place in (2, 3, 4):
            row = elsewhere(1)
            self.assertEqual(answer_of(row[:place] + [1] + row[place + 1:], MOVE), [-1], place)

    def test_range_of_n(self):
        for form in (less, more, shield):
            for n in (-1, MOST + 1, 1000000000):
                self.assertEqual(answer_of(form(n)), [-1], (form, n))
            for n in (1, MOST):
                self.assertEqual(answer_of(form(n)), [0, 1], (form, n))
        self.assertEqual(answer_of(less(0)), [0, 1])
        self.assertEqual(answer_of(more(0)), [0, 1])
        for form in (instead, besides):
            for n in (-1, MOST + 1):
                self.assertEqual(answer_of(form(DAMAGE, 0, n)), [-1], (form, n))
            for n in (0, MOST):
                self.assertEqual(answer_of(form(DAMAGE, 0, n)), [0, 1], (form, n))

    def test_range_of_x(self):
        for x in (-1, 2, 9, 10, 27, 1000000000):
            for row in (turn(x), split(x), instead(DAMAGE, x), besides(DAMAGE, x)):
                self.assertEqual(answer_of(row), [-1], row)
        for x in (0, 1, 11, 26):
            for row in (turn(x), split(x), instead(DAMAGE, x), besides(DAMAGE, x)):
                self.assertEqual(answer_of(row), [0, 1], row)

    def test_range_of_k(self):
        for form in (instead, besides):
            for k in (-1, 6, 1000000000):
                self.assertEqual(answer_of(form(k, 0)), [-1], k)
                self.assertEqual(answer_of(form(k, 11)), [-1], k)
            self.assertEqual(answer_of(form(0, 0)), [0, 1])
            self.assertEqual(answer_of(form(5, 11)), [0, 1])

    def test_range_of_z(self):
        for z in (-1, 4, 1000000000):
            self.assertEqual(answer_of(elsewhere(z), MOVE), [-1])
            self.assertEqual(answer_of(instead(MOVE, 11, 0, z)), [-1])
            self.assertEqual(answer_of(besides(MOVE, 11, 0, z)), [-1])
        for z in (0, 3):
            self.assertEqual(answer_of(elsewhere(z), MOVE), [0, 1])
            self.assertEqual(answer_of(instead(MOVE, 11, 0, z)), [0, 1])
            self.assertEqual(answer_of(besides(MOVE, 11, 0, z)), [0, 1])

    def test_z_is_zero_unless_a_move_is_made(self):
        for form in (instead, besides):
            for k, x in ((DAMAGE, 0), (DRAW, 0), (GAIN, 0), (COUNTERS, 11), (TOKENS, 0)):
                self.assertEqual(answer_of(form(k, x, 0, 1)), [-1], k)
                self.assertEqual(answer_of(form(k, x, 0, 1), MOVE), [-1], k)

    def test_n_is_zero_if_a_move_is_made(self):
        for form in (instead, besides):
            self.assertEqual(answer_of(form(MOVE, 11, 1)), [-1])
            self.assertEqual(answer_of(form(MOVE, 11, 0)), [0, 1])


class WhatItIsFor(unittest.TestCase):

    def test_forms_for_all_kinds_but_move(self):
        for does in (less(1), more(1), TWICE, HALF, shield(1)):
            for kind in range(5):
                self.assertEqual(answer_of(does, kind), [0, 1], (does, kind))
            self.assertEqual(answer_of(does, MOVE), [-4], does)

    def test_turn_and_split_need_a_target_that_suits_and_are_not_for_moves(self):
        for form in (turn, split):
            for kind in (DAMAGE, DRAW, GAIN, TOKENS):
                self.assertEqual(answer_of(form(0), kind), [0, 1], kind)
                self.assertEqual(answer_of(form(1), kind), [0, 1], kind)
            for kind in (DRAW, GAIN, TOKENS, MOVE):
                self.assertEqual(answer_of(form(11), kind), [-4], kind)
            for kind in (DAMAGE, COUNTERS):
                self.assertEqual(answer_of(form(11), kind), [0, 1], kind)
            for kind in (COUNTERS, MOVE):
                self.assertEqual(answer_of(form(0), kind), [-4], kind)

    def test_a_shields_rest_is_more_than_0(self):
        for kind in range(5):
            self.assertEqual(answer_of(shield(0), kind), [-4], kind)
            self.assertEqual(answer_of(shield(1), kind), [0, 1], kind)

    def test_nothing_is_for_all_kinds(self):
        for kind in KINDS:
            self.assertEqual(answer_of(NOTHING, kind), [0, 1], kind)

    def test_instead_and_besides_are_for_all_kinds(self):
        for form in (instead, besides):
            for kind in KINDS:
                for k in (DAMAGE, DRAW, GAIN, TOKENS):
                    self.assertEqual(answer_of(form(k, 1), kind), [0, 1], (kind, k))
                for k in (DAMAGE, COUNTERS, MOVE):
                    self.assertEqual(answer_of(form(k, 11), kind), [0, 1], (kind, k))
                for k in (DRAW, GAIN, TOKENS):
                    self.assertEqual(answer_of(form(k, 11), kind), [-4], (kind, k))
                for k in (COUNTERS, MOVE):
                    self.assertEqual(answer_of(form(k, 1), kind), [-4], (kind, k))

    def test_elsewhere_is_for_moves_alone(self):
        self.assertEqual(answer_of(elsewhere(1), MOVE), [0, 1])
        for kind in range(5):
            self.assertEqual(answer_of(elsewhere(1), kind), [-4], kind)
            self.assertEqual(answer_of(elsewhere(0), kind), [-4], kind)

    def test_a_thing_x_must_be_there(self):
        for does in (turn(12), split(12), instead(DAMAGE, 12), besides(DAMAGE, 12), instead(MOVE, 12), besides(COUNTERS, 12)):
            self.assertEqual(answer_of(does, DAMAGE, 1), [-4], does)
            self.assertEqual(answer_of(does, DAMAGE, 2), [0, 1], does)


class HowMany(unittest.TestCase):

    def test_at_most_twelve(self):
        given = ask(*[effect(NOTHING)] * 13)
        self.assertEqual(given, [[0, number] for number in range(1, 13)] + [[-3]])

    def test_ended_ones_do_not_count(self):
        self.assertEqual(last(*[effect(NOTHING)] * 12, stop(4), effect(TWICE)), [0, 13])
        self.assertEqual(last(*[effect(NOTHING)] * 12, stop(4), effect(TWICE), effect(TWICE)), [-3])
        self.assertEqual(last(*[effect(NOTHING)] * 11, effect(TWICE, kind=DRAW, uses=1), batch(event(DRAW)), effect(TWICE)), [0, 13])

    def test_at_most_five_that_split_or_make_besides(self):
        for five in ([split(0)] * 5, [besides(GAIN, 0)] * 5, [split(0), besides(GAIN, 0), split(1), besides(MOVE, 11), split(11)]):
            made = [thing()] + [effect(does) for does in five]
            for sixth in (split(0), besides(GAIN, 1)):
                self.assertEqual(last(*made[:-1], effect(sixth)), [0, 5])
                self.assertEqual(last(*made, effect(sixth)), [-3])
                self.assertEqual(last(*made, stop(2), effect(sixth)), [0, 6])
            for other in (TWICE, instead(GAIN, 0), turn(0), shield(1)):
                self.assertEqual(last(*made, effect(other)), [0, 6])

    def test_others_do_not_count_as_these(self):
        self.assertEqual(last(*[effect(instead(GAIN, 0))] * 6, effect(split(0))), [0, 7])

    def test_a_twelfth_that_splits(self):
        self.assertEqual(last(*[effect(TWICE)] * 12, effect(split(0))), [-3])


class RefusalsInTurn(unittest.TestCase):

    def test_somebody_is_asked(self):
        self.assertEqual(last(*ASKED, effect(TWICE)), [-2])

    def test_form_before_asked(self):
        self.assertEqual(last(*ASKED, effect(TWICE, side=2)), [-1])
        self.assertEqual(last(*ASKED, effect([2, 1, 0, 0, 0])), [-1])

    def test_asked_before_too_many(self):
        self.assertEqual(last(*[effect(TWICE)] * 12, batch(event()), effect(TWICE, source=3)), [-2])

    def test_asked_before_not_there(self):
        self.assertEqual(last(*ASKED, effect(TWICE, source=3)), [-2])

    def test_form_before_too_many(self):
        self.assertEqual(last(*[effect(TWICE)] * 12, effect([11, 0, 0, 0, 0])), [-1])

    def test_too_many_before_not_there_and_off_the_field(self):
        full = [effect(TWICE)] * 12
        self.assertEqual(last(*full, effect(TWICE, source=1)), [-3])
        self.assertEqual(last(*full, effect(TWICE, kind=MOVE)), [-3])
        self.assertEqual(last(thing(0, HAND), *full, effect(TWICE, source=1)), [-3])
        self.assertEqual(last(*[effect(split(0))] * 5, effect(split(11))), [-3])
        self.assertEqual(last(*[effect(split(0))] * 5, effect(besides(DRAW, 11), source=9)), [-3])

    def test_not_there_before_off_the_field(self):
        self.assertEqual(last(thing(0, HAND), effect(TWICE, source=1, things=[2])), [-4])
        self.assertEqual(last(thing(0, HAND), effect(TWICE, source=1, sources=[2])), [-4])
        self.assertEqual(last(thing(0, HAND), effect(TWICE, source=1, kind=MOVE)), [-4])
        self.assertEqual(last(thing(0, HAND), effect(shield(0), source=1)), [-4])
        self.assertEqual(last(thing(0, HAND), effect(turn(12), source=1)), [-4])


if __name__ == "__main__":
    unittest.main()
