"""A desk: a house asked and changed by rows of text, alone or in runs that are kept or taken back."""

from sealedkinds.answers import answer_to
from sealedkinds.deskrows import deskrow_in
from sealedkinds.errors import BadRow, Busy
from sealedkinds.house import House
from sealedkinds.running import LIMIT

DEEP = 2


class Desk:
    """A house of its own, and the log of all runs; runs of modules may take so many steps."""

    def __init__(self, *, most=LIMIT):
        self.most = most
        self.rooms = House()
        self.records = []
        self.under_way = 0

    def ask(self, row):
        """Does the row, and tells its answer; BadRow(row), then as the house refuses it."""
        words = deskrow_in(row)
        if words[0] == "again":
            raise BadRow(row)
        return answer_to(self.rooms, self.most, words)

    def run(self, rows, *, keep=False, deep=DEEP):
        """Does the rows one by one, and tells the list of their answers; all is taken back without keep, or if refused.

        Refused as the first row that is refused; `again` with BadRow(row), Busy(deep).
        """
        before = self.rooms.like()
        kept = None
        try:
            texts = self.done_within(rows, deep)
            if keep:
                kept = True
        finally:
            if kept is None:
                self.rooms = before
        return texts

    def done_within(self, rows, deep):
        """The answers of the rows of a run; what they did stays."""
        texts = []
        done = 0
        self.records.append(("begin", len(rows)))
        self.under_way += 1
        try:
            for row in rows:
                texts.append(self.answer_within(row, rows[:done], deep))
                done += 1
        finally:
            self.under_way -= 1
            self.records.append(("end", done))
        return texts

    def answer_within(self, row, ahead, deep):
        """The answer of a row of a run; ahead are those ahead of it."""
        words = deskrow_in(row)
        if words[0] != "again":
            return answer_to(self.rooms, self.most, words)
        many = words[1]
        if many > len(ahead):
            raise BadRow(row)
        if self.under_way >= deep:
            raise Busy(deep)
        self.done_within(ahead[len(ahead) - many:], deep)
        return str(many)

    def is_open(self):
        """Whether no run is under way."""
        return self.under_way == 0

    def log(self):
        """The list of ("begin", how many rows) and ("end", how many of them were done) of all runs, as they came."""
        return list(self.records)

    def house(self):
        """A house of one's own, like the desk's as it is now."""
        return self.rooms.like()
