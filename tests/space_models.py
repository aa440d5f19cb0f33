"""A slow plain model of mapped spaces: real pages with their words, and who names them."""

from tests.helpers import Refused

NOTHING, RESERVED, COMMITTED, FRAMED, OUT = range(5)


class PlainMapped:
    """Slow spaces over the plain buddies; the rows of a user are kept as lists [state, rights, page]."""

    def __init__(self, buddies, label, *, pages=8, slow=0, zone=1):
        self.buddies, self.label, self.pages, self.slow, self.zone = buddies, label, pages, slow, zone
        self.width, self.fill = buddies.width, buddies.fill
        self.rows = {user: [[0, 0, 0] for _ in range(pages)] for user in range(1, 9)}
        self.tables = {}

    def image(self):
        for user, page in self.tables.items():
            for at, (state, rights, real) in enumerate(self.rows[user]):
                self.buddies.cells[page * self.width + 2 * at][0] = 4 * state + rights
                self.buddies.cells[page * self.width + 2 * at + 1][0] = real
        return self.buddies.image()

    def order(self):
        order = 0
        while self.width * 2 ** order < 2 * self.pages:
            order += 1
        return order

    def table(self, holder):
        return [tuple(row) for row in self.rows[holder]]

    def namers(self, page):
        return [
            (user, at) for user in range(1, 9) for at, row in enumerate(self.rows[user])
            if row[0] in (FRAMED, OUT) and row[2] == page]

    def stretches(self, holder):
        rows = self.rows[holder]
        kinds = [("reserved" if row[0] == 1 else "committed", row[1]) if row[0] else None for row in rows]
        out, at = [], 0
        while at < self.pages:
            end = at
            while end < self.pages and kinds[end] == kinds[at]:
                end += 1
            if kinds[at]:
                out.append((at * self.width, (end - at) * self.width) + kinds[at])
            at = end
        return out

    def faults(self, user, start, count, least):
        """Raises the fault of the first page whose state is too low."""
        for page in range(start // self.width, start // self.width + count):
            if self.rows[user][page][0] < least:
                raise Refused("Fault", ["unmapped", "reserved"][self.rows[user][page][0]], page * self.width)

    def choose(self, user, count):
        """The lowest free pages of a user, who gets a table if need be."""
        if user not in self.tables:
            self.tables[user] = self.buddies.take_block(self.order(), self.label + user, 27, self.zone, False)
        rows = self.rows[user]
        starts = range(self.pages - count + 1)
        for first in starts:
            if all(row[0] == 0 for row in rows[first:first + count]):
                return first
        cover = []
        for first in starts:
            if not any(first <= page < first + count for page in cover):
                cover.append(max(page for page in range(first, first + count) if rows[page][0]))
        raise Refused("NoRoom", ("space", tuple(cover)))

    def span(self, first, count):
        return (first * self.width, count * self.width)

    def reserve(self, holder, count):
        first = self.choose(holder, count)
        for page in range(first, first + count):
            self.rows[holder][page] = [1, 0, 0]
        return self.span(first, count)

    def commit_pages(self, holder, start, count):
        self.faults(holder, start, count, 1)
        for row in self.part(holder, start, count):
            if row[0] == 1:
                row[:] = [2, 2, 0]

    def part(self, user, start, count):
        """The rows of a range of virtual pages."""
        return self.rows[user][start // self.width:start // self.width + count]

    def protect(self, holder, start, count, rights):
        self.faults(holder, start, count, 2)
        for row in self.part(holder, start, count):
            row[1] = rights

    def release(self, holder, start, count):
        self.faults(holder, start, count, 1)
        for row in self.part(holder, start, count):
            real, named = row[2], row[0] >= 3
            row[:] = [0, 0, 0]
            if named and not self.namers(real):
                self.buddies.drop_block(real)
        if all(row[0] == 0 for row in self.rows[holder]):
            self.buddies.drop_block(self.tables.pop(holder))

    def share(self, giver, start, count, taker):
        self.faults(giver, start, count, 2)
        first = self.choose(taker, count)
        for at, row in enumerate(self.part(giver, start, count)):
            self.rows[taker][first + at] = list(row)
        return self.span(first, count)

    def words(self, page):
        """The words of a real page."""
        return [self.buddies.cells[page * self.width + k][0] for k in range(self.width)]

    def new_page(self, state):
        label, zone = (self.label + 9, self.slow) if state == OUT else (self.label, self.zone)
        return self.buddies.take_block(0, label, 27, zone, state == OUT)

    def copy(self, page, state):
        made = self.new_page(state)
        for k, word in enumerate(self.words(page)):
            self.buddies.cells[made * self.width + k][0] = word
        return made

    def exchange(self, page, state):
        made = self.copy(page, state)
        for user, at in self.namers(page):
            self.rows[user][at][0], self.rows[user][at][2] = state, made
        self.buddies.drop_block(page)
        return made

    def put_out(self, holder, start, count):
        if not self.slow:
            raise Refused("Unknown", "slow")
        self.faults(holder, start, count, 2)
        done = 0
        for row in self.part(holder, start, count):
            if row[0] == FRAMED:
                self.exchange(row[2], OUT)
                done += 1
        return done

    def access(self, user, place, least):
        """The row of a virtual place, fetched back if it is put out."""
        row = self.rows[user][place // self.width]
        if row[0] < 2:
            raise Refused("Fault", ["unmapped", "reserved"][row[0]], place)
        if row[1] < least:
            raise Refused("Fault", "denied", place)
        if row[0] == OUT:
            self.exchange(row[2], FRAMED)
        return row

    def load(self, holder, place):
        row = self.access(holder, place, 1)
        if row[0] == COMMITTED:
            return self.fill
        return self.words(row[2])[place % self.width]

    def store(self, holder, place, word):
        row = self.access(holder, place, 2)
        if row[0] == COMMITTED:
            row[0], row[2] = FRAMED, self.new_page(FRAMED)
        elif len(self.namers(row[2])) > 1:
            row[2] = self.copy(row[2], FRAMED)
        self.buddies.cells[row[2] * self.width + place % self.width][0] = word
