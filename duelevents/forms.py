"""Whether a call is of its form: how many numbers and rows it has, and the ranges told for them."""

from duelevents.words import BESIDES, ELSEWHERE, HALF, INSTEAD, LAST_KIND, LAST_PLACE, LESS, MORE
from duelevents.words import MOST_THINGS, MOVE, NOTHING, SHIELD, SPLIT, TURN, TWICE, is_target

MOST_AMOUNT = 1000000
EVENT_NUMBERS = 5
DOES_NUMBERS = 5

THING_RANGES = ((0, 1), (0, 3))
EFFECT_RANGES = ((0, 1), (0, 16), (0, 5), (0, 2), (0, 2), (0, 1), (0, 1), (0, 1000000))


def is_within(number, least, most):
    return least <= number <= most


def are_in_ranges(numbers, ranges):
    if len(numbers) != len(ranges):
        return False
    for number, ends in zip(numbers, ranges):
        if not is_within(number, ends[0], ends[1]):
            return False
    return True


def are_zero(numbers):
    return all([number == 0 for number in numbers])


def is_thing_call(arguments, rows):
    return are_in_ranges(arguments, THING_RANGES) and len(rows) == 0


def is_effect_call(arguments, rows):
    return (
        are_in_ranges(arguments, EFFECT_RANGES)
        and len(rows) == 3
        and is_row_of_things(rows[0])
        and is_row_of_things(rows[1])
        and is_does_row(rows[2])
    )


def is_batch_call(arguments, rows):
    return len(arguments) == 0 and all([is_event_row(row) for row in rows])


def has_no_number(arguments, rows):
    return len(arguments) == 0 and len(rows) == 0


def has_one_number(arguments, rows):
    return len(arguments) == 1 and len(rows) == 0


def has_two_numbers(arguments, rows):
    return len(arguments) == 2 and len(rows) == 0


def is_row_of_things(row):
    return len(row) <= MOST_THINGS and all([is_within(number, 1, MOST_THINGS) for number in row])


def is_event_row(row):
    if len(row) != EVENT_NUMBERS or not is_within(row[0], 0, LAST_KIND):
        return False
    if not is_within(row[1], 0, MOST_THINGS) or not is_target(row[2]):
        return False
    if row[0] == MOVE:
        return row[3] == 1 and is_within(row[4], 0, LAST_PLACE)
    return is_within(row[3], 0, MOST_AMOUNT) and row[4] == 0


def is_does_row(row):
    if len(row) != DOES_NUMBERS:
        return False
    form = row[0]
    if form == INSTEAD or form == BESIDES:
        return is_made_event(row[1], row[2], row[3], row[4])
    if form in (TWICE, HALF, NOTHING):
        return are_zero(row[1:])
    if form in (LESS, MORE, SHIELD):
        return is_within(row[1], 0, MOST_AMOUNT) and are_zero(row[2:])
    if form == TURN or form == SPLIT:
        return is_target(row[1]) and are_zero(row[2:])
    return form == ELSEWHERE and is_within(row[1], 0, LAST_PLACE) and are_zero(row[2:])


def is_made_event(kind, target, amount, place):
    if not is_within(kind, 0, LAST_KIND) or not is_target(target):
        return False
    if kind == MOVE:
        return amount == 0 and is_within(place, 0, LAST_PLACE)
    return is_within(amount, 0, MOST_AMOUNT) and place == 0


FORMS = (
    is_thing_call,
    is_effect_call,
    has_one_number,
    is_batch_call,
    has_two_numbers,
    has_two_numbers,
    has_no_number,
    has_no_number,
    has_no_number,
    has_one_number,
    has_one_number,
    has_no_number,
    has_one_number,
    has_no_number,
    has_two_numbers,
)


def is_of_its_form(number, arguments, rows):
    if not 0 <= number < len(FORMS):
        return False
    form = FORMS[number]
    return form(arguments, rows)
