"""An effect, and which effects are offered for an event."""

from duelevents.words import is_side, thing_of

AIM_SIDE = 1
AIM_THING = 2
WHOSE_OWN_SIDE = 1
WHOSE_OTHER_SIDE = 2


class Effect:

    def __init__(self, number, traits, things, sources, does):
        self.number = number
        self.side = traits[0]
        self.source = traits[1]
        self.kind = traits[2]
        self.aim = traits[3]
        self.whose = traits[4]
        self.own = traits[5]
        self.may = traits[6]
        self.uses = traits[7]
        self.things = list(things)
        self.sources = list(sources)
        self.does = list(does)

    def duplicate(self):
        traits = [self.side, self.source, self.kind, self.aim, self.whose, self.own, self.may, self.uses]
        return Effect(self.number, traits, self.things, self.sources, self.does)

    def as_row(self):
        return [self.number, self.side, self.source, self.kind, self.uses] + self.does[:2]


def fits(effect, event, befallen):
    return (
        effect.kind == event.kind
        and effect.number not in event.used
        and fits_aim(effect.aim, event.target)
        and fits_whose(effect, befallen)
        and fits_things(effect.things, event.target)
        and fits_sources(effect.sources, event.source)
        and fits_own(effect, event.source)
    )


def fits_aim(aim, target):
    if aim == AIM_SIDE:
        return is_side(target)
    if aim == AIM_THING:
        return not is_side(target)
    return True


def fits_whose(effect, befallen):
    if effect.whose == WHOSE_OWN_SIDE:
        return befallen == effect.side
    if effect.whose == WHOSE_OTHER_SIDE:
        return befallen != effect.side
    return True


def fits_things(things, target):
    if len(things) == 0:
        return True
    return not is_side(target) and thing_of(target) in things


def fits_sources(sources, source):
    return len(sources) == 0 or source in sources


def fits_own(effect, source):
    return effect.own == 0 or (effect.source != 0 and effect.source == source)


def offered_effects(table, event):
    befallen = table.befallen_side(event.target)
    fitting = [effect for effect in table.effects if fits(effect, event, befallen)]
    own = [effect for effect in fitting if effect.own == 1]
    if len(own) > 0:
        return own
    return fitting
