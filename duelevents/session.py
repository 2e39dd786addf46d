"""The calls of a session: each is asked of a table and answers a list of numbers."""

from duelevents.batches import asked_side, begin, choose, choose_to_the_end, decline, events_left, offered_effect
from duelevents.batches import take_back
from duelevents.effects import Effect
from duelevents.events import Event
from duelevents.forms import is_of_its_form
from duelevents.tables import Thing
from duelevents.words import BESIDES, ELSEWHERE, INSTEAD, LAST_KIND, MOST_THINGS, MOVE, NOTHING, SHIELD, SPLIT, TURN
from duelevents.words import is_side, suits

NOT_OF_ITS_FORM = -1
SOMEBODY_IS_ASKED = -2
TOO_MANY_OR_NONE = -3
NOT_THERE_OR_UNSUITED = -4
SOURCE_OFF_FIELD = -5
NO_SUCH_EFFECT = -6
NOBODY_IS_ASKED = -7
OTHER_SIDE_IS_ASKED = -8
NO_MAY_EFFECT = -9

MOST_EFFECTS = 12
MOST_MULTIPLYING_EFFECTS = 5
MOST_EVENTS = 4


def how_it_stands(table):
    if table.batch is None:
        return [0, 0]
    return [0, 1, asked_side(table)] + offered_numbers(table)


def offered_numbers(table):
    return [effect.number for effect in table.batch.offered]


def answer_thing(table, arguments, rows):
    if table.batch is not None:
        return [SOMEBODY_IS_ASKED]
    if len(table.things) >= MOST_THINGS:
        return [TOO_MANY_OR_NONE]
    table.things.append(Thing(arguments[0], arguments[1]))
    return [0, len(table.things)]


def answer_effect(table, arguments, rows):
    source = arguments[1]
    if table.batch is not None:
        return [SOMEBODY_IS_ASKED]
    if not has_room_for_effect(table, rows[2][0]):
        return [TOO_MANY_OR_NONE]
    if not table.has_source(source) or not all([table.has_thing(number) for number in rows[0] + rows[1]]):
        return [NOT_THERE_OR_UNSUITED]
    if not is_for_kind(table, arguments[2], rows[2]):
        return [NOT_THERE_OR_UNSUITED]
    if not table.on_field(source):
        return [SOURCE_OFF_FIELD]
    table.effects_numbered += 1
    table.effects.append(Effect(table.effects_numbered, arguments, rows[0], rows[1], rows[2]))
    return [0, table.effects_numbered]


def has_room_for_effect(table, form):
    if len(table.effects) >= MOST_EFFECTS:
        return False
    if not is_multiplying(form):
        return True
    multiplying = [effect for effect in table.effects if is_multiplying(effect.does[0])]
    return len(multiplying) < MOST_MULTIPLYING_EFFECTS


# These leave an event and put one beside it: their number is bounded, else events could become too many.
def is_multiplying(form):
    return form == SPLIT or form == BESIDES


def is_for_kind(table, kind, does):
    form = does[0]
    if form == NOTHING:
        return True
    if form == INSTEAD or form == BESIDES:
        return is_possible_target(table, does[2], does[1])
    if form == ELSEWHERE or kind == MOVE:
        return form == ELSEWHERE and kind == MOVE
    if form == TURN or form == SPLIT:
        return is_possible_target(table, does[1], kind)
    return form != SHIELD or does[1] > 0


def is_possible_target(table, target, kind):
    return table.has_target(target) and suits(target, kind)


def answer_stop(table, arguments, rows):
    if table.batch is not None:
        return [SOMEBODY_IS_ASKED]
    if table.effect_numbered(arguments[0]) is None:
        return [NO_SUCH_EFFECT]
    table.end_effect(arguments[0])
    return [0]


def answer_batch(table, arguments, rows):
    if table.batch is not None:
        return [SOMEBODY_IS_ASKED]
    if not 1 <= len(rows) <= MOST_EVENTS:
        return [TOO_MANY_OR_NONE]
    for row in rows:
        if not table.has_source(row[1]) or not is_possible_target(table, row[2], row[0]):
            return [NOT_THERE_OR_UNSUITED]
    begin(table, [Event(row[0], row[1], row[2], row[3], row[4], []) for row in rows])
    return how_it_stands(table)


def choice_refusal(table, side, number):
    if table.batch is None:
        return NOBODY_IS_ASKED
    if offered_effect(table, number) is None:
        return NO_SUCH_EFFECT
    if side != asked_side(table):
        return OTHER_SIDE_IS_ASKED
    return 0


def answer_choose(table, arguments, rows):
    refusal = choice_refusal(table, arguments[0], arguments[1])
    if refusal != 0:
        return [refusal]
    choose(table, offered_effect(table, arguments[1]))
    return how_it_stands(table)


def answer_decline(table, arguments, rows):
    refusal = choice_refusal(table, arguments[0], arguments[1])
    if refusal != 0:
        return [refusal]
    effect = offered_effect(table, arguments[1])
    if effect.may == 0:
        return [NO_MAY_EFFECT]
    decline(table, effect)
    return how_it_stands(table)


def answer_rest(table, arguments, rows):
    if table.batch is None:
        return [NOBODY_IS_ASKED]
    choose_to_the_end(table)
    return how_it_stands(table)


def answer_undo(table, arguments, rows):
    if table.batch is None:
        return [NOBODY_IS_ASKED]
    take_back(table)
    return [0]


def answer_ask(table, arguments, rows):
    if table.batch is None:
        return [0, 0]
    numbers = offered_numbers(table)
    event = table.batch.row[0]
    return [0, 1, asked_side(table), len(numbers)] + numbers + event.as_row() + event.used


def answer_side(table, arguments, rows):
    if not is_side(arguments[0]):
        return [NOT_THERE_OR_UNSUITED]
    return [0] + table.sides[arguments[0]].as_row()


def answer_look(table, arguments, rows):
    if not table.has_thing(arguments[0]):
        return [NOT_THERE_OR_UNSUITED]
    return [0] + table.thing_numbered(arguments[0]).as_row()


def answer_effects(table, arguments, rows):
    return one_behind_another(table.effects)


def answer_book(table, arguments, rows):
    if not 0 <= arguments[0] <= LAST_KIND:
        return [NOT_THERE_OR_UNSUITED]
    return [0] + table.books[arguments[0]].as_row()


def answer_left(table, arguments, rows):
    return one_behind_another(events_left(table))


def one_behind_another(shown):
    answer = [0]
    for each in shown:
        answer.extend(each.as_row())
    return answer


def answer_own(table, arguments, rows):
    if table.batch is not None:
        return [SOMEBODY_IS_ASKED]
    if not table.has_thing(arguments[0]) or not is_side(arguments[1]):
        return [NOT_THERE_OR_UNSUITED]
    thing = table.thing_numbered(arguments[0])
    thing.side = arguments[1]
    return [0]


ANSWERERS = (
    answer_thing,
    answer_effect,
    answer_stop,
    answer_batch,
    answer_choose,
    answer_decline,
    answer_rest,
    answer_undo,
    answer_ask,
    answer_side,
    answer_look,
    answer_effects,
    answer_book,
    answer_left,
    answer_own,
)


def answer_call(table, number, arguments, rows):
    if not is_of_its_form(number, arguments, rows):
        return [NOT_OF_ITS_FORM]
    answerer = ANSWERERS[number]
    return answerer(table, arguments, rows)
