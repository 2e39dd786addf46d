"""The package's interface: calls as one flat list of numbers in, their answers as another out."""

from duelevents.session import answer_call
from duelevents.tables import Table


class Reader:

    def __init__(self, calls):
        self.calls = calls
        self.position = 0

    def at_end(self):
        return self.position >= len(self.calls)

    def read_number(self):
        number = self.calls[self.position]
        self.position += 1
        return number

    def read_row(self):
        length = self.read_number()
        row = self.calls[self.position:self.position + length]
        self.position += length
        return row

    def read_rows(self):
        rows = []
        for turn in range(self.read_number()):
            rows.append(self.read_row())
        return rows


def answers(calls):
    table = Table()
    reader = Reader(calls)
    told = []
    while not reader.at_end():
        number = reader.read_number()
        arguments = reader.read_row()
        rows = reader.read_rows()
        answer = answer_call(table, number, arguments, rows)
        told.append(len(answer))
        told.extend(answer)
    return told
