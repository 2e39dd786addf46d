"""An event: something that is about to happen."""


# The list of effects used is replaced, never changed: events that come of one another share it.
class Event:

    def __init__(self, kind, source, target, amount, place, used):
        self.kind = kind
        self.source = source
        self.target = target
        self.amount = amount
        self.place = place
        self.used = used

    def as_row(self):
        return [self.kind, self.source, self.target, self.amount, self.place]

    def mark(self, number):
        self.used = [number] + self.used
