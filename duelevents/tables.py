"""What a session keeps: sides, things, effects, books, and the batch about which a side is asked."""

from duelevents.words import FIELD, LAST_KIND, is_side, thing_of

FIRST_LIFE = 20


class Side:

    def __init__(self):
        self.life = FIRST_LIFE
        self.drawn = 0
        self.tokens = 0

    def as_row(self):
        return [self.life, self.drawn, self.tokens]


class Thing:

    def __init__(self, side, place):
        self.side = side
        self.place = place
        self.damage = 0
        self.counters = 0

    def as_row(self):
        return [self.side, self.place, self.damage, self.counters]


class Book:

    def __init__(self):
        self.told = 0
        self.made = 0
        self.added = 0
        self.cut = 0
        self.turned = 0
        self.happened = 0

    def duplicate(self):
        twin = Book()
        twin.told = self.told
        twin.made = self.made
        twin.added = self.added
        twin.cut = self.cut
        twin.turned = self.turned
        twin.happened = self.happened
        return twin

    def as_row(self):
        return [self.told, self.made, self.added, self.cut, self.turned, self.happened]


class Table:

    def __init__(self):
        self.sides = [Side(), Side()]
        self.things = []
        self.effects = []
        self.effects_numbered = 0
        self.books = [Book() for kind in range(LAST_KIND + 1)]
        self.batch = None

    def has_thing(self, number):
        return 1 <= number <= len(self.things)

    def has_target(self, target):
        return is_side(target) or self.has_thing(thing_of(target))

    def has_source(self, source):
        return source == 0 or self.has_thing(source)

    # An effect without a source can't lose it, so none counts as one on the field.
    def on_field(self, source):
        return source == 0 or self.thing_numbered(source).place == FIELD

    def befallen_side(self, target):
        if is_side(target):
            return target
        return self.thing_numbered(thing_of(target)).side

    def thing_numbered(self, number):
        return self.things[number - 1]

    def effect_numbered(self, number):
        for effect in self.effects:
            if effect.number == number:
                return effect
        return None

    def end_effect(self, number):
        self.effects = [effect for effect in self.effects if effect.number != number]
