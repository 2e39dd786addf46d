"""How a batch goes: its events are looked at, settled, and happen together."""

from duelevents.effects import offered_effects
from duelevents.using import use
from duelevents.words import COUNTERS, DAMAGE, DRAW, FIELD, GAIN, MOVE, is_side, thing_of


class Batch:

    def __init__(self, row, effects_before, books_before):
        self.row = row
        self.settled = []
        self.offered = []
        self.effects_before = effects_before
        self.books_before = books_before


def begin(table, row):
    effects_before = [effect.duplicate() for effect in table.effects]
    books_before = [book.duplicate() for book in table.books]
    table.batch = Batch(row, effects_before, books_before)
    for event in row:
        book = table.books[event.kind]
        book.told += event.amount
    go_on(table)


def go_on(table):
    batch = table.batch
    batch.offered = []
    while len(batch.row) > 0 and len(batch.offered) == 0:
        look_at_first(table, batch)
    if len(batch.offered) == 0:
        finish(table)


def look_at_first(table, batch):
    event = batch.row[0]
    if event.amount == 0:
        batch.row.pop(0)
        return
    offered = offered_effects(table, event)
    if len(offered) == 0:
        batch.settled.append(batch.row.pop(0))
    elif len(offered) == 1 and offered[0].may == 0:
        use(table, offered[0])
    else:
        batch.offered = offered


def asked_side(table):
    return table.befallen_side(table.batch.row[0].target)


def offered_effect(table, number):
    for effect in table.batch.offered:
        if effect.number == number:
            return effect
    return None


def events_left(table):
    if table.batch is None:
        return []
    return table.batch.row + table.batch.settled


def choose(table, effect):
    use(table, effect)
    go_on(table)


def decline(table, effect):
    table.batch.row[0].mark(effect.number)
    go_on(table)


def choose_to_the_end(table):
    while table.batch is not None:
        choose(table, table.batch.offered[0])


def take_back(table):
    # Sides and things change only when a batch happens, and one that is taken back hasn't yet.
    table.effects = table.batch.effects_before
    table.books = table.batch.books_before
    table.batch = None


def finish(table):
    for event in table.batch.settled:
        book = table.books[event.kind]
        book.happened += event.amount
        if is_side(event.target):
            happen_to_side(table.sides[event.target], event)
        else:
            happen_to_thing(table.thing_numbered(thing_of(event.target)), event)
    table.effects = [effect for effect in table.effects if table.on_field(effect.source)]
    table.batch = None


def happen_to_side(side, event):
    if event.kind == DAMAGE:
        side.life -= event.amount
    elif event.kind == DRAW:
        side.drawn += event.amount
    elif event.kind == GAIN:
        side.life += event.amount
    else:
        side.tokens += event.amount


def happen_to_thing(thing, event):
    if event.kind == MOVE:
        thing.place = event.place
        thing.damage = 0
        thing.counters = 0
    elif thing.place != FIELD:
        return
    elif event.kind == COUNTERS:
        thing.counters += event.amount
    else:
        thing.damage += event.amount
