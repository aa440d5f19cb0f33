"""Handles: parcels in a bed that may be moved, because each is found through a table."""

from allgivenback.basics import HANDLE, NoRoom, Unknown, is_user
from allgivenback.beds import need_bed, need_bed_in, need_new_bed
from allgivenback.checks import is_exactly, is_paper, is_word, need, need_whole
from allgivenback.deeds import as_deed, need_held
from allgivenback.images import MOST_TOP
from allgivenback.moves import all_down, are_parcels, free_rows, is_no_move, least_move, words_moved

LEAST_HANDLES = 5
# A bed has at least so many places beside its table: its first word and a parcel with one payload place.
BESIDE_TABLE = 4
MOST_HANDLES = 64
# A parcel has so many places before its payload.
HEAD = 2


def start_handles(ground, start, size, slots):
    """Makes so many handles in a bed and returns them."""
    need_bed(ground, start, size, LEAST_HANDLES)
    need_whole(slots, 1, min(MOST_HANDLES, size - BESIDE_TABLE), "slots")
    need_new_bed(ground, start, size, HANDLE)
    ground.write_row(start, (slots,) + (0,) * slots, HANDLE)
    return Handles(ground, start, size)


def table_in(words, start):
    """The table of the handles in a bed: for each handle the first place of its parcel, or 0."""
    return words[start + 1:start + 1 + words[start]]


def parcels_in(words, start, end):
    """A list of the parcels (start, size, pinned) of the handles in a bed, ascending."""
    # The judge is also asked of damaged beds, in which a table word may tell a place outside of the bed.
    places = sorted([place for place in table_in(words, start) if place != 0 and place + 1 < end])
    return [(place, words[place + 1] + HEAD, words[place] % 2 == 1) for place in places]


class Handles:
    """A view of the handles in a bed."""

    def __init__(self, ground, start, size):
        need_bed(ground, start, size, LEAST_HANDLES)
        self._ground = ground
        self._start = start
        self._end = start + size

    def _need_handle(self, handle):
        """Raises BadValue unless the argument is the number of a handle."""
        need_whole(handle, 1, self._ground.word_at(self._start), "handle")

    def _parcel(self, handle):
        """The first place of the handle's parcel; Unknown if it has none."""
        place = self._ground.word_at(self._start + handle)
        if place == 0:
            raise Unknown("handle")
        return place

    def _payload(self, handle):
        """The span of the handle's payload; Unknown if it has none."""
        place = self._parcel(handle)
        return (place + HEAD, self._ground.word_at(place + 1))

    def take(self, size, holder):
        """Gives the holder a payload of so many places and returns its handle."""
        need_whole(size, 1, MOST_TOP, "size")
        need(is_user(holder), "holder")
        return as_deed(self._ground, lambda: self._take(size, holder))

    def _take(self, size, holder):
        """Does what take tells, once the arguments are looked at."""
        table = table_in(self._ground.image()[2], self._start)
        if 0 not in table:
            raise NoRoom(("table", len(table)))
        low, high, parcels = self.layout()
        plan = least_move(low, high, parcels, size + HEAD)
        if plan is None:
            raise NoRoom(("handles", free_rows(low, high, parcels)))
        moves, gap = plan
        self._move(moves)
        handle = table.index(0) + 1
        self._ground.pass_on(gap + HEAD, size, HANDLE, holder)
        self._ground.write_row(gap, (2 * handle, size), HANDLE)
        self._ground.write(self._start + handle, gap, HANDLE)
        return handle

    def _move(self, moves):
        """Makes moves that all lead downwards, the lowest parcel first."""
        fill = self._ground.fill
        for start, target, size in moves:
            _, _, words, holders = self._ground.image()
            self._ground.put_cells([
                (target + at, words[start + at], holders[start + at]) for at in range(size)])
            self._ground.put_cells([
                (place, fill, HANDLE) for place in range(max(start, target + size), start + size)])
            self._ground.write(self._start + words[start] // 2, target, HANDLE)

    def read(self, handle, offset, holder):
        """The word at the offset in the handle's payload."""
        self._need_handle(handle)
        need_whole(offset, 0, MOST_TOP - 1, "offset")
        need(is_user(holder), "holder")
        return self._ground.read(self._place(handle, offset), holder)

    def write(self, handle, offset, word, holder):
        """Changes the word at the offset in the handle's payload."""
        self._need_handle(handle)
        need_whole(offset, 0, MOST_TOP - 1, "offset")
        need(is_word(word), "word")
        need(is_user(holder), "holder")
        self._ground.write(self._place(handle, offset), word, holder)

    def _place(self, handle, offset):
        """The place at the offset in the handle's payload."""
        start, size = self._payload(handle)
        if offset >= size:
            raise Unknown("offset")
        return start + offset

    def pin(self, handle, holder):
        """Pins the handle's parcel, which is not moved from then on."""
        self._set_pin(handle, holder, 1)

    def unpin(self, handle, holder):
        """Lets the handle's parcel be moved again."""
        self._set_pin(handle, holder, 0)

    def _set_pin(self, handle, holder, pin):
        """Writes the head of the handle's parcel."""
        start, _ = self._held_payload(handle, holder)
        self._ground.write(start - HEAD, 2 * handle + pin, HANDLE)

    def _held_payload(self, handle, holder):
        """The span of the handle's payload, once the arguments and the holders are looked at."""
        self._need_handle(handle)
        need(is_user(holder), "holder")
        start, size = self._payload(handle)
        need_held(self._ground, start, size, holder)
        return (start, size)

    def give_back(self, handle, holder):
        """Frees the handle and the places of its parcel, and returns the span that the payload had."""
        start, size = self._held_payload(handle, holder)
        as_deed(self._ground, lambda: self._free(handle, start - HEAD, start + size))
        return (start, size)

    def _free(self, handle, low, end):
        """Frees a handle and the places of its parcel."""
        self._ground.put_cells([(place, self._ground.fill, HANDLE) for place in range(low, end)])
        self._ground.write(self._start + handle, 0, HANDLE)

    def span_at(self, handle):
        """The span of the handle's payload."""
        self._need_handle(handle)
        return self._payload(handle)

    def compact(self):
        """Moves all parcels down that are not pinned, and returns the number of words moved."""
        low, high, parcels = self.layout()
        moves = all_down(low, high, parcels)
        as_deed(self._ground, lambda: self._move(moves))
        return words_moved(moves)

    def layout(self):
        """A tuple (low, high, parcels) of the range behind the table and a list of the parcels in it."""
        words = self._ground.image()[2]
        return (self._start + 1 + words[self._start], self._end, parcels_in(words, self._start, self._end))

    def handed(self):
        """A list of tuples (start, size, holder) of all payloads, ascending."""
        return [
            (start + HEAD, size - HEAD, self._ground.holder_at(start + HEAD))
            for start, size, _ in self.layout()[2]]


def is_no_parcel(image, start, size, paper, wanted):
    """True if the paper shows that all handles are used or that no moves make room for the payload."""
    need_bed_in(image, start, size, LEAST_HANDLES)
    need_whole(wanted, 1, MOST_TOP, "wanted")
    words = image[2]
    if image[3][start] != HANDLE:
        return False
    if is_exactly(paper, ("table", words[start])):
        return 0 not in table_in(words, start)
    low = start + 1 + words[start]
    end = start + size
    parcels = parcels_in(words, start, end)
    if not is_paper(paper, "handles", 2) or low > end or not are_parcels(low, end, parcels):
        return False
    return is_no_move(low, end, parcels, wanted + HEAD, paper[1])
