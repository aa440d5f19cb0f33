"""Mapped spaces: each user's virtual pages, with frames that may be shared and put out."""

from allgivenback.basics import Fault, MAPPED, NoRoom, Unknown, is_user, is_whole
from allgivenback.buddies import Buddies
from allgivenback.checks import is_word, need, need_whole
from allgivenback.covers import least_cover
from allgivenback.deeds import as_deed
from allgivenback.layout import given_in
from allgivenback.places import Places
from allgivenback.spans import order_of

# The tables of the users and the put-out pages have labels above that of the frames.
MOST_SPACE_LABEL = 900
OUT_STEP = 9
MOST_VIRTUAL = 32
USERS = 8
NOTHING = 0
RESERVED = 1
COMMITTED = 2
FRAMED = 3
OUT = 4
LOADS = 1
STORES = 2
# The faults of the states that have no words.
FAULTS = ("unmapped", "reserved")
NO_ROW = (0, 0, 0)


def is_slow_zone(zone_rows, value):
    """True if the value is 0 or a zone with no zone behind it."""
    if not is_whole(value) or not 0 <= value <= len(zone_rows):
        return False
    return value == 0 or zone_rows[value - 1][3] == 0


def table_order(width, pages):
    """The order of the block of a table of so many virtual pages."""
    return order_of((2 * pages + width - 1) // width)


def table_rows(words, place, pages):
    """A list of tuples (state, rights, page) of a table from the place on, one for each virtual page."""
    return [(words[at] // 4, words[at] % 4, words[at + 1]) for at in range(place, place + 2 * pages, 2)]


def table_words(rows):
    """The words of such rows in a table."""
    return [word for state, rights, page in rows for word in (4 * state + rights, page)]


def names_page(row):
    """True if the row of a table names a real page."""
    return row[0] >= FRAMED


def stretch_of(row):
    """The kind and the rights by which virtual pages are joined to a stretch, or None in state 0."""
    if row[0] == NOTHING:
        return None
    return ("reserved" if row[0] == RESERVED else "committed", row[1])


def need_states(rows, first, count, least, width):
    """Raises Fault for the first of so many virtual pages whose state is less than the least one."""
    for page in range(first, first + count):
        state = rows[page][0]
        if state < least:
            raise Fault(FAULTS[state], page * width)


class Mapped:
    """The spaces of all users."""

    def __init__(self, buddies, label, *, pages=8, slow=0, zone=1):
        need(isinstance(buddies, Buddies), "buddies")
        need_whole(label, 1, MOST_SPACE_LABEL, "label")
        need_whole(pages, 1, MOST_VIRTUAL, "pages")
        zone_rows = buddies.zone_rows()
        need(is_slow_zone(zone_rows, slow), "slow")
        need_whole(zone, 1, len(zone_rows), "zone")
        self._buddies = buddies
        self._ground = buddies.ground
        self._width = buddies.ground.width
        self._label = label
        self._many = pages
        self._slow = slow
        self._zone = zone

    def _need_range(self, start, count):
        """Raises BadValue unless the two tell virtual pages of a space."""
        need_whole(start, 0, self._many * self._width - 1, "start")
        need(start % self._width == 0, "start")
        need_whole(count, 1, self._many - start // self._width, "count")

    def _need_states(self, user, start, count, least):
        """Raises Fault for the first of the user's virtual pages whose state is less than the least one."""
        need_states(self._rows(user), start // self._width, count, least, self._width)

    def _table_at(self, user):
        """The first place of the user's table, or None."""
        blocks = given_in(self._ground.image(), self._label + user)
        return blocks[0][0] * self._width if blocks else None

    def _rows(self, user):
        """The rows of the user's table."""
        image = self._ground.image()
        blocks = given_in(image, self._label + user)
        if not blocks:
            return [NO_ROW] * self._many
        return table_rows(image[2], blocks[0][0] * self._width, self._many)

    def _set_rows(self, user, first, rows):
        """Writes rows into the user's table, from the virtual page on."""
        self._ground.write_row(self._table_at(user) + 2 * first, table_words(rows), MAPPED)

    def reserve(self, holder, count):
        """Reserves so many virtual pages of the holder and returns their span."""
        need(is_user(holder), "holder")
        need_whole(count, 1, self._many, "count")
        return as_deed(self._ground, lambda: self._reserve(holder, [(RESERVED, 0, 0)] * count))

    def _reserve(self, user, rows):
        """Gives such rows to the lowest virtual pages in state 0 that have room, and returns their span."""
        if self._table_at(user) is None:
            self._new_table(user)
        held = Places([(page, 1) for page, row in enumerate(self._rows(user)) if row[0] != NOTHING])
        count = len(rows)
        first = (Places([(0, self._many)]) - held).first_start(count)
        if first is None:
            raise NoRoom(("space", least_cover(0, self._many, count, held)))
        self._set_rows(user, first, rows)
        return (first * self._width, count * self._width)

    def _new_table(self, user):
        """Takes a table for the user, with all virtual pages in state 0."""
        order = table_order(self._width, self._many)
        start, _ = self._buddies.take(order, self._label + user, MAPPED, zone=self._zone)
        self._ground.write_row(start, table_words([NO_ROW] * self._many), MAPPED)

    def commit_pages(self, holder, start, count):
        """Lets reserved pages be loaded and stored; committed ones stay as they are."""
        need(is_user(holder), "holder")
        self._need_range(start, count)
        self._need_states(holder, start, count, RESERVED)
        first = start // self._width
        rows = self._rows(holder)[first:first + count]
        self._set_rows(holder, first, [(COMMITTED, STORES, 0) if row[0] == RESERVED else row for row in rows])

    def protect(self, holder, start, count, rights):
        """Sets the rights of committed pages."""
        need(is_user(holder), "holder")
        self._need_range(start, count)
        need_whole(rights, 0, STORES, "rights")
        self._need_states(holder, start, count, COMMITTED)
        first = start // self._width
        rows = self._rows(holder)[first:first + count]
        self._set_rows(holder, first, [(state, rights, page) for state, _, page in rows])

    def release(self, holder, start, count):
        """Puts pages into state 0 and gives back what nobody names any more."""
        need(is_user(holder), "holder")
        self._need_range(start, count)
        self._need_states(holder, start, count, RESERVED)
        as_deed(self._ground, lambda: self._release(holder, start // self._width, count))

    def _release(self, user, first, count):
        """Does what release tells, once the arguments are looked at."""
        rows = self._rows(user)[first:first + count]
        named = sorted({row[2] for row in rows if names_page(row)})
        self._set_rows(user, first, [NO_ROW] * count)
        for page in named:
            if not self._namers(page):
                self._drop(page)
        if all([row[0] == NOTHING for row in self._rows(user)]):
            self._buddies.give_back(self._table_at(user), MAPPED)

    def _drop(self, page):
        """Gives a frame or a put-out page back."""
        self._buddies.give_back(page * self._width, MAPPED)

    def share(self, giver, start, count, taker):
        """Gives the taker's space the giver's pages and returns their span there."""
        need(is_user(giver), "giver")
        self._need_range(start, count)
        need(is_user(taker) and taker != giver, "taker")
        self._need_states(giver, start, count, COMMITTED)
        first = start // self._width
        rows = self._rows(giver)[first:first + count]
        return as_deed(self._ground, lambda: self._reserve(taker, rows))

    def put_out(self, holder, start, count):
        """Puts the frames of pages out into the slow zone and returns their number."""
        need(is_user(holder), "holder")
        self._need_range(start, count)
        if self._slow == 0:
            raise Unknown("slow")
        self._need_states(holder, start, count, COMMITTED)
        return as_deed(self._ground, lambda: self._put_out(holder, start // self._width, count))

    def _put_out(self, user, first, count):
        """Does what put_out tells, once the arguments are looked at."""
        done = 0
        for page in range(first, first + count):
            # A frame that an earlier page of the range names, too, is out already when this page's turn comes.
            state, _, real = self._rows(user)[page]
            if state == FRAMED:
                self._exchange(real, OUT)
                done = done + 1
        return done

    def _new_page(self, state):
        """Takes a frame or a put-out page, as the state tells, and returns its number."""
        label = self._label + (OUT_STEP if state == OUT else 0)
        zone = self._slow if state == OUT else self._zone
        start, _ = self._buddies.take(0, label, MAPPED, zone=zone, urgent=state == OUT)
        return start // self._width

    def _copy(self, page, state):
        """Takes a frame or a put-out page with the words of a real page, and returns its number."""
        start = page * self._width
        words = self._ground.image()[2][start:start + self._width]
        made = self._new_page(state)
        self._ground.write_row(made * self._width, words, MAPPED)
        return made

    def _exchange(self, page, state):
        """Puts a copy in the place of a real page, lets all who name the page name it, and returns its number."""
        made = self._copy(page, state)
        for user, virtual in self._namers(page):
            _, rights, _ = self._rows(user)[virtual]
            self._set_rows(user, virtual, [(state, rights, made)])
        self._drop(page)
        return made

    def load(self, holder, place):
        """The word of a virtual place."""
        self._need_place(holder, place)
        state, _, real = self._need_rights(holder, place, LOADS)
        if state == COMMITTED:
            return self._ground.fill
        frame = real if state == FRAMED else as_deed(self._ground, lambda: self._exchange(real, FRAMED))
        return self._ground.word_at(frame * self._width + place % self._width)

    def _need_place(self, holder, place):
        """Raises BadValue unless the two tell a virtual place of a user."""
        need(is_user(holder), "holder")
        need_whole(place, 0, self._many * self._width - 1, "place")

    def _need_rights(self, user, place, least):
        """The row of the page of a virtual place; Fault if the place cannot be used with so many rights."""
        row = self._rows(user)[place // self._width]
        state, rights, _ = row
        if state < COMMITTED:
            raise Fault(FAULTS[state], place)
        if rights < least:
            raise Fault("denied", place)
        return row

    def store(self, holder, place, word):
        """Changes the word of a virtual place."""
        self._need_place(holder, place)
        need(is_word(word), "word")
        row = self._need_rights(holder, place, STORES)
        as_deed(self._ground, lambda: self._store(holder, place, word, row))

    def _store(self, user, place, word, row):
        """Does what store tells, once the arguments and the row of the page are looked at."""
        page = place // self._width
        state, rights, real = row
        if state == OUT:
            real = self._exchange(real, FRAMED)
        if state == COMMITTED:
            real = self._new_page(FRAMED)
        elif len(self._namers(real)) > 1:
            real = self._copy(real, FRAMED)
        self._set_rows(user, page, [(FRAMED, rights, real)])
        self._ground.write(real * self._width + place % self._width, word, MAPPED)

    def table(self, holder):
        """A list of tuples (state, rights, page), one for each virtual page of the holder."""
        need(is_user(holder), "holder")
        return self._rows(holder)

    def stretches(self, holder):
        """A list of tuples (start, size, kind, rights) of the holder's stretches, ascending."""
        need(is_user(holder), "holder")
        out = []
        before = None
        for page, row in enumerate(self._rows(holder)):
            kind = stretch_of(row)
            if kind is not None and kind == before:
                start, size = out[-1][:2]
                out[-1] = (start, size + self._width) + kind
            elif kind is not None:
                out.append((page * self._width, self._width) + kind)
            before = kind
        return out

    def namers(self, page):
        """A list of tuples (user, virtual page) that name the real page, ascending."""
        need_whole(page, 0, self._ground.pages - 1, "page")
        return self._namers(page)

    def _namers(self, page):
        """Does what namers tells, once the argument is looked at."""
        found = []
        for user in range(1, USERS + 1):
            rows = self._rows(user)
            found.extend([(user, at) for at, row in enumerate(rows) if names_page(row) and row[2] == page])
        return found
