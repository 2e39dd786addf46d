"""Using an effect on the event that is looked at, which stands first in the batch's row."""

from duelevents.events import Event
from duelevents.words import MOVE, SHIELD


def set_amount(table, event, amount):
    book = table.books[event.kind]
    if amount < event.amount:
        book.cut += event.amount - amount
    else:
        book.added += amount - event.amount
    event.amount = amount


def put_behind(table, event):
    table.batch.row.insert(1, event)


def use_less(table, effect, event):
    set_amount(table, event, max(event.amount - effect.does[1], 0))


def use_more(table, effect, event):
    set_amount(table, event, event.amount + effect.does[1])


def use_twice(table, effect, event):
    set_amount(table, event, 2 * event.amount)


def use_half(table, effect, event):
    set_amount(table, event, event.amount // 2)


def use_nothing(table, effect, event):
    set_amount(table, event, 0)


def use_shield(table, effect, event):
    taken = min(event.amount, effect.does[1])
    effect.does[1] -= taken
    set_amount(table, event, event.amount - taken)


def use_turn(table, effect, event):
    event.target = effect.does[1]


def use_split(table, effect, event):
    half = event.amount // 2
    if half == 0:
        return
    # The two halves together are what was there, so the book has nothing to tell.
    event.amount -= half
    put_behind(table, Event(event.kind, event.source, effect.does[1], half, event.place, event.used))


def make_event(table, effect, event):
    kind = effect.does[1]
    amount = effect.does[3]
    if kind == MOVE:
        amount = 1
    elif amount == 0:
        amount = event.amount
    book = table.books[kind]
    book.made += amount
    put_behind(table, Event(kind, event.source, effect.does[2], amount, effect.does[4], event.used))


def use_instead(table, effect, event):
    # What is made may take over the amount, so it is made before that is gone.
    make_event(table, effect, event)
    book = table.books[event.kind]
    book.turned += event.amount
    event.amount = 0


def use_besides(table, effect, event):
    make_event(table, effect, event)


def use_elsewhere(table, effect, event):
    event.place = effect.does[1]


DEEDS = (
    use_less,
    use_more,
    use_twice,
    use_half,
    use_nothing,
    use_shield,
    use_turn,
    use_split,
    use_instead,
    use_besides,
    use_elsewhere,
)


def use(table, effect):
    event = table.batch.row[0]
    # The mark comes first: whatever is split off or made has it too.
    event.mark(effect.number)
    deed = DEEDS[effect.does[0]]
    deed(table, effect, event)
    wear(table, effect)


def wear(table, effect):
    if effect.uses == 1 or (effect.does[0] == SHIELD and effect.does[1] == 0):
        table.end_effect(effect.number)
    elif effect.uses > 1:
        effect.uses -= 1
