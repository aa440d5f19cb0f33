"""Heaps: pieces of any size in a bed, with marks at both ends of each."""

from allgivenback.basics import HEAP, NoRoom, Unknown, is_user
from allgivenback.beds import MOST_BED_ALIGN, need_bed, need_new_bed
from allgivenback.checks import need, need_whole
from allgivenback.deeds import as_deed, need_held
from allgivenback.images import MOST_TOP
from allgivenback.marks import LEAST_HEAP, LEAST_PIECE, free_pieces, look_at, serves, sound_pieces
from allgivenback.spans import need_align


def write_marks(ground, place, count, used):
    """Writes the two marks of a piece of so many places."""
    word = 2 * count + (1 if used else 0)
    ground.write(place, word, HEAP)
    ground.write(place + count - 1, word, HEAP)


def write_heap(ground, start, size):
    """Writes a heap with one free piece."""
    ground.write_row(start, (size, start + 2), HEAP)
    write_marks(ground, start + 2, size - 2, False)


def start_heap(ground, start, size):
    """Makes a new heap in a bed and returns it."""
    need_bed(ground, start, size, LEAST_HEAP)
    need_new_bed(ground, start, size, HEAP)
    as_deed(ground, lambda: write_heap(ground, start, size))
    return Heap(ground, start, size)


def index_of(pieces, start):
    """The index of the used piece whose payload begins at the place; Unknown if none does."""
    for at, (p, _, used) in enumerate(pieces):
        if used and p + 1 == start:
            return at
    raise Unknown("start")


def end_with_next(pieces, at):
    """The end of a piece and of the free piece behind it, if there is one."""
    p, n, _ = pieces[at]
    if at + 1 < len(pieces) and not pieces[at + 1][2]:
        return p + n + pieces[at + 1][1]
    return p + n


class Heap:
    """A view of the heap in a bed."""

    def __init__(self, ground, start, size):
        need_bed(ground, start, size, LEAST_HEAP)
        self._ground = ground
        self._start = start
        self._size = size

    def take(self, size, holder, *, align=1, fit="first"):
        """Gives a payload of at least so many places to the holder and returns its span."""
        need_whole(size, 1, MOST_TOP, "size")
        need(is_user(holder), "holder")
        need_align(align, MOST_BED_ALIGN, "align")
        need(fit == "first" or fit == "next" or fit == "best", "fit")
        return as_deed(self._ground, lambda: self._take(size, holder, align, fit))

    def _take(self, size, holder, align, fit):
        """Does what take tells, once the arguments are looked at."""
        pieces = self.pieces()
        fitting = [row for row in free_pieces(pieces) if serves(row[0], row[1], size, align) is not None]
        if not fitting:
            raise NoRoom(("heap", free_pieces(pieces)))
        p, n = self._choose(fitting, fit)
        span = self._use(p, n, serves(p, n, size, align), size, holder)
        if fit == "next":
            behind = span[0] + span[1] + 1
            if behind == self._start + self._size:
                behind = self._start + 2
            self._set_rover(behind)
        return span

    def _choose(self, fitting, fit):
        """The one of the free pieces that serve which is used."""
        if fit == "best":
            # Of several that tie, the first one is the lowest.
            return min(fitting, key=lambda row: row[1])
        if fit == "next":
            rover = self._rover()
            ahead = [row for row in fitting if row[0] >= rover]
            return (ahead + fitting)[0]
        return fitting[0]

    def _use(self, p, n, q, size, holder):
        """Cuts a used piece with the payload at q out of a free piece, and returns the payload's span."""
        behind = q + size + 1
        rest = p + n - behind
        if rest < LEAST_PIECE:
            behind = p + n
        if q - 1 > p:
            write_marks(self._ground, p, q - 1 - p, False)
        self._ground.pass_on(q, behind - 1 - q, HEAP, holder)
        write_marks(self._ground, q - 1, behind - (q - 1), True)
        if rest >= LEAST_PIECE:
            write_marks(self._ground, behind, rest, False)
        return (q, behind - 1 - q)

    def give_back(self, start, holder):
        """Makes a used piece free, joins it with the free ones beside it and returns the payload's span."""
        need_whole(start, 0, self._ground.top - 1, "start")
        need(is_user(holder), "holder")
        return as_deed(self._ground, lambda: self._give_back(start, holder))

    def _give_back(self, start, holder):
        """Does what give_back tells, once the arguments are looked at."""
        pieces = self.pieces()
        at = index_of(pieces, start)
        low, n, _ = pieces[at]
        self._ground.pass_on(start, n - 2, holder, HEAP)
        if at > 0 and not pieces[at - 1][2]:
            low = pieces[at - 1][0]
        end = end_with_next(pieces, at)
        self._clear(low, end)
        write_marks(self._ground, low, end - low, False)
        self._mend_rover()
        return (start, n - 2)

    def pass_to(self, start, holder, taker):
        """Passes a payload on to a user with its words and returns its span."""
        pieces = self.pieces()
        size = pieces[index_of(pieces, start)][1] - 2
        self._ground.pass_on(start, size, holder, taker)
        return (start, size)

    def resize(self, start, holder, size, *, align=1):
        """Gives the payload another size, in place if it can, and returns its new span."""
        need_whole(start, 0, self._ground.top - 1, "start")
        need(is_user(holder), "holder")
        need_whole(size, 1, MOST_TOP, "size")
        need_align(align, MOST_BED_ALIGN, "align")
        return as_deed(self._ground, lambda: self._resize(start, holder, size, align))

    def _resize(self, start, holder, size, align):
        """Does what resize tells, once the arguments are looked at."""
        pieces = self.pieces()
        at = index_of(pieces, start)
        n = pieces[at][1]
        need_held(self._ground, start, n - 2, holder)
        total = end_with_next(pieces, at) - pieces[at][0]
        if start % align == 0 and size + 2 <= total:
            return self._resize_in_place(start, n, total, size, holder)
        span = self._take(size, holder, align, "first")
        kept = min(n - 2, span[1])
        self._ground.write_row(span[0], self._ground.image()[2][start:start + kept], holder)
        self._give_back(start, holder)
        return span

    def _resize_in_place(self, start, n, total, size, holder):
        """Makes a used piece of n places larger or smaller, within so many places in total."""
        p = start - 1
        count = size + 2 if total - size - 2 >= LEAST_PIECE else total
        kept = min(n, count) - 2
        if count < n:
            self._ground.pass_on(start + kept, n - 2 - kept, holder, HEAP)
        self._clear(start + kept, p + total)
        if count > n:
            self._ground.pass_on(start + kept, count - n, HEAP, holder)
        write_marks(self._ground, p, count, True)
        if count < total:
            write_marks(self._ground, p + count, total - count, False)
        self._mend_rover()
        return (start, count - 2)

    def _clear(self, low, end):
        """Writes fill into places of the heap."""
        self._ground.write_row(low, (self._ground.fill,) * (end - low), HEAP)

    def _set_rover(self, place):
        """Writes the rover."""
        self._ground.write(self._start + 1, place, HEAP)

    def _rover(self):
        """The rover, also while it is not the first place of a piece."""
        return self._ground.word_at(self._start + 1)

    def _mend_rover(self):
        """Moves the rover down to the first place of a piece, if it is none now."""
        firsts = [p for p, _, _ in look_at(self._ground.image(), self._start, self._size)[0]]
        self._set_rover(max([p for p in firsts if p <= self._rover()]))

    def pieces(self):
        """A list of the pieces (p, n, used), ascending."""
        return sound_pieces(self._ground.image(), self._start, self._size)

    def rover(self):
        """The first place of the piece from which the fit "next" looks."""
        self.pieces()
        return self._rover()

    def handed(self):
        """A list of tuples (start, size, holder) of the payloads of the used pieces, ascending."""
        return [(p + 1, n - 2, self._ground.holder_at(p + 1)) for p, n, used in self.pieces() if used]

    def is_empty(self):
        """True if no piece is used."""
        return not any([used for _, _, used in self.pieces()])
