"""Slow plain models of what works in beds, written from the points alone."""

from tests.helpers import Refused
from tests.test_moves import plain_least, plain_rows


def plain_broken(image, start, size):
    """Point 41, step by step."""
    _, fill, words, holders = image
    if not (holders[start] == 24 and words[start] == size):
        return (start, words[start], size)
    p, end, firsts, before = start + 2, start + size, [], None
    while p != end:
        m, n = words[p], words[p] // 2
        if holders[p] != 24 or n < 3 or p + n > end or (m % 2 == 0 and before == "free"):
            return (p, m, 0)
        if holders[p + n - 1] != 24 or words[p + n - 1] != m:
            return (p + n - 1, words[p + n - 1], m)
        for place in range(p + 1, p + n - 1):
            if m % 2 == 0 and (holders[place] != 24 or words[place] != fill):
                return (place, words[place], fill)
            if m % 2 == 1 and holders[place] not in range(1, 9):
                return (place, words[place], 0)
        firsts.append(p)
        before = "free" if m % 2 == 0 else "used"
        p += n
    if holders[start + 1] != 24 or words[start + 1] not in firsts:
        return (start + 1, words[start + 1], start + 2)
    return None


def plain_serves(p, n, size, align):
    """Point 42: the least place that may be q, if the piece reaches far enough."""
    q = p + 1
    while q % align or not (q - 1 == p or q - 1 >= p + 3):
        q += 1
    return q if q + size + 1 <= p + n else None


class PlainHeap:
    """A slow heap: a list of pieces, and the words and holders of the payloads of the used ones."""

    def __init__(self, image, start, size):
        self.base, self.start, self.size = image, start, size
        self.list = [(start + 2, size - 2, False)]
        self.first = start + 2
        self.payload = {}

    def image(self):
        width, fill, words, holders = self.base
        words, holders = list(words), list(holders)
        for place in range(self.start, self.start + self.size):
            words[place], holders[place] = self.payload.get(place, (fill, 24))
        words[self.start], words[self.start + 1] = self.size, self.first
        for p, n, used in self.list:
            words[p] = words[p + n - 1] = 2 * n + used
        return (width, fill, tuple(words), tuple(holders))

    def pieces(self):
        return list(self.list)

    def rover(self):
        return self.first

    def is_empty(self):
        return all(not used for _, _, used in self.list)

    def handed(self):
        return [(p + 1, n - 2, self.payload[p + 1][1]) for p, n, used in self.list if used]

    def free(self):
        return tuple((p, n) for p, n, used in self.list if not used)

    def take(self, size, holder, *, align=1, fit="first"):
        fitting = [(p, n) for p, n in self.free() if plain_serves(p, n, size, align) is not None]
        if not fitting:
            raise Refused("NoRoom", ("heap", self.free()))
        if fit == "best":
            p, n = sorted(fitting, key=lambda row: (row[1], row[0]))[0]
        elif fit == "next":
            p, n = ([row for row in fitting if row[0] >= self.first] + [row for row in fitting if row[0] < self.first])[0]
        else:
            p, n = fitting[0]
        q = plain_serves(p, n, size, align)
        parts = [(p, q - 1 - p, False)] if q - 1 != p else []
        rest = p + n - (q + size + 1)
        used = size + 2 if rest >= 3 else p + n - (q - 1)
        parts.append((q - 1, used, True))
        if rest >= 3:
            parts.append((p + n - rest, rest, False))
        self.replace([(p, n, False)], parts)
        for place in range(q, q + used - 2):
            self.payload[place] = (self.base[1], holder)
        if fit == "next":
            firsts = [row[0] for row in self.list]
            at = firsts.index(q - 1) + 1
            self.first = firsts[at] if at < len(firsts) else firsts[0]
        return (q, used - 2)

    def replace(self, old, new):
        """Puts some pieces in the place of others."""
        self.list = sorted([row for row in self.list if row not in old] + new)

    def join(self):
        """Joins free pieces that touch, and mends the rover."""
        joined = []
        for p, n, used in self.list:
            if joined and not used and not joined[-1][2]:
                joined[-1] = (joined[-1][0], joined[-1][1] + n, False)
            else:
                joined.append((p, n, used))
        self.list = joined
        firsts = [row[0] for row in self.list]
        if self.first not in firsts:
            self.first = max(p for p in firsts if p < self.first)

    def piece_at(self, start, holder):
        for p, n, used in self.list:
            if used and p + 1 == start:
                for place in range(start, start + n - 2):
                    if self.payload[place][1] != holder:
                        raise Refused("NotHeld", place, self.payload[place][1])
                return p, n
        raise Refused("Unknown", "start")

    def give_back(self, start, holder):
        p, n = self.piece_at(start, holder)
        for place in range(start, start + n - 2):
            del self.payload[place]
        self.replace([(p, n, True)], [(p, n, False)])
        self.join()
        return (start, n - 2)

    def resize(self, start, holder, size, *, align=1):
        p, n = self.piece_at(start, holder)
        behind = [row for row in self.list if row[0] == p + n and not row[2]]
        t = n + sum(row[1] for row in behind)
        words = {place: self.payload[place] for place in range(start, start + n - 2)}
        if start % align == 0 and size + 2 <= t:
            count = size + 2 if t - size - 2 >= 3 else t
            for place in words:
                del self.payload[place]
            for place in range(start, start + count - 2):
                self.payload[place] = words.get(place, (self.base[1], holder))
            rest = [(p + count, t - count, False)] if t > count else []
            self.replace([(p, n, True)] + behind, [(p, count, True)] + rest)
            self.join()
            return (start, count - 2)
        span = self.take(size, holder, align=align)
        for k in range(min(n - 2, span[1])):
            self.payload[span[0] + k] = (self.payload[start + k][0], holder)
        self.give_back(start, holder)
        return span


class PlainRegion:
    """A slow region: a list of items, and the words and holders of their payloads."""

    def __init__(self, image, start, size):
        self.base, self.start, self.size = image, start, size
        self.items = []
        self.payload = {}

    def edge(self):
        return self.items[-1][0] + 1 + self.items[-1][1] if self.items else self.start + 1

    def image(self):
        width, fill, words, holders = self.base
        words, holders = list(words), list(holders)
        for place in range(self.start, self.start + self.size):
            words[place], holders[place] = self.payload.get(place, (fill, 25))
        words[self.start] = self.edge()
        for head, s, used in self.items:
            words[head] = 2 * s + used
        return (width, fill, tuple(words), tuple(holders))

    def items_in(self):
        return list(self.items)

    def mark(self):
        return self.edge()

    def handed(self):
        return [(head + 1, s, self.payload[head + 1][1]) for head, s, used in self.items if used]

    def take(self, size, holder, *, align=1):
        edge, end = self.edge(), self.start + self.size
        q = edge + 1
        while q % align:
            q += 1
        if q + size > end:
            raise Refused("NoRoom", ("region", end - edge))
        if q - 1 != edge:
            self.items.append((edge, q - 2 - edge, False))
        self.items.append((q - 1, size, True))
        for place in range(q, q + size):
            self.payload[place] = (self.base[1], holder)
        return (q, size)

    def release(self, mark, holder):
        if mark != self.edge() and mark not in [row[0] for row in self.items]:
            raise Refused("Unknown", "mark")
        for place in sorted(self.payload):
            if place >= mark and self.payload[place][1] != holder:
                raise Refused("NotHeld", place, self.payload[place][1])
        gone = [row for row in self.items if row[0] >= mark]
        self.items = [row for row in self.items if row[0] < mark]
        self.payload = {place: cell for place, cell in self.payload.items() if place < mark}
        return sum(used for _, _, used in gone)


class PlainHandles:
    """Slow handles: for each used one the first place of its parcel, its pin and its payload's words and holders."""

    def __init__(self, image, start, size, slots):
        self.base, self.start, self.size, self.slots = image, start, size, slots
        self.used = {}

    def image(self):
        width, fill, words, holders = self.base
        words, holders = list(words), list(holders)
        for place in range(self.start, self.start + self.size):
            words[place], holders[place] = fill, 26
        words[self.start] = self.slots
        for handle in range(1, self.slots + 1):
            words[self.start + handle] = self.used[handle][0] if handle in self.used else 0
        for handle, (place, pinned, cells) in self.used.items():
            words[place], words[place + 1] = 2 * handle + pinned, len(cells)
            for k, (word, holder) in enumerate(cells):
                words[place + 2 + k], holders[place + 2 + k] = word, holder
        return (width, fill, tuple(words), tuple(holders))

    def layout(self):
        rows = sorted((place, len(cells) + 2, pinned) for place, pinned, cells in self.used.values())
        return (self.start + 1 + self.slots, self.start + self.size, rows)

    def handed(self):
        return sorted((place + 2, len(cells), cells[0][1]) for place, _, cells in self.used.values())

    def take(self, size, holder):
        free = [handle for handle in range(1, self.slots + 1) if handle not in self.used]
        if not free:
            raise Refused("NoRoom", ("table", self.slots))
        plan = plain_least(*self.layout(), size + 2)
        if plan is None:
            raise Refused("NoRoom", ("handles", plain_rows(*self.layout())))
        self.move(plan[0])
        self.used[free[0]] = [plan[1], False, [[self.base[1], holder] for _ in range(size)]]
        return free[0]

    def move(self, moves):
        targets = {start: target for start, target, _ in moves}
        for row in self.used.values():
            row[0] = targets.get(row[0], row[0])

    def parcel(self, handle):
        if handle not in self.used:
            raise Refused("Unknown", "handle")
        return self.used[handle]

    def cell(self, handle, offset, holder):
        place, _, cells = self.parcel(handle)
        if offset >= len(cells):
            raise Refused("Unknown", "offset")
        if cells[offset][1] != holder:
            raise Refused("NotHeld", place + 2 + offset, cells[offset][1])
        return cells[offset]

    def read(self, handle, offset, holder):
        return self.cell(handle, offset, holder)[0]

    def write(self, handle, offset, word, holder):
        self.cell(handle, offset, holder)[0] = word

    def whole(self, handle, holder):
        row = self.parcel(handle)
        for k, (_, found) in enumerate(row[2]):
            if found != holder:
                raise Refused("NotHeld", row[0] + 2 + k, found)
        return row

    def pin(self, handle, holder):
        self.whole(handle, holder)[1] = True

    def unpin(self, handle, holder):
        self.whole(handle, holder)[1] = False

    def span_at(self, handle):
        place, _, cells = self.parcel(handle)
        return (place + 2, len(cells))

    def give_back(self, handle, holder):
        self.whole(handle, holder)
        span = self.span_at(handle)
        del self.used[handle]
        return span

    def compact(self):
        low, moved, moves = self.layout()[0], 0, []
        for start, size, pinned in self.layout()[2]:
            if not pinned and start != low:
                moves.append((start, low, size))
                moved += size
                start = low
            low = start + size
        self.move(moves)
        return moved
