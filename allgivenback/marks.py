"""The pieces of a heap and their marks, as an image shows them."""

from allgivenback.basics import Broken, HEAP, is_user
from allgivenback.beds import MOST_BED_ALIGN, need_bed_in
from allgivenback.checks import is_exactly, need_whole
from allgivenback.images import MOST_TOP
from allgivenback.spans import align_up, need_align

LEAST_HEAP = 5
LEAST_PIECE = 3


def is_mark(image, place, word):
    """True if the place is held by the heaps and has the word."""
    return image[3][place] == HEAP and image[2][place] == word


def broken_payload(image, start, end, used):
    """The first broken word of a payload as a tuple (place, found, due), or None."""
    fill = image[1]
    for place in range(start, end):
        if used and not is_user(image[3][place]):
            return (place, image[2][place], 0)
        if not used and not is_mark(image, place, fill):
            return (place, image[2][place], fill)
    return None


def broken_piece(image, place, end, after_free):
    """The first broken word of the piece at a place of a bed with that end, or None."""
    mark = image[2][place]
    count = mark // 2
    used = mark % 2 == 1
    last = place + count - 1
    if image[3][place] != HEAP or count < LEAST_PIECE or last >= end or (after_free and not used):
        return (place, mark, 0)
    if not is_mark(image, last, mark):
        return (last, image[2][last], mark)
    return broken_payload(image, place + 1, last, used)


def look_at(image, start, size):
    """A list of the pieces (p, n, used) up to the first broken word, and that word or None."""
    if not is_mark(image, start, size):
        return ([], (start, image[2][start], size))
    pieces = []
    place = start + 2
    after_free = False
    while place < start + size:
        broken = broken_piece(image, place, start + size, after_free)
        if broken is not None:
            return (pieces, broken)
        count = image[2][place] // 2
        used = image[2][place] % 2 == 1
        pieces.append((place, count, used))
        after_free = not used
        place = place + count
    rover = start + 1
    if not any([is_mark(image, rover, p) for p, _, _ in pieces]):
        return (pieces, (rover, image[2][rover], rover + 1))
    return (pieces, None)


def sound_pieces(image, start, size):
    """A list of all pieces (p, n, used), ascending; Broken if a word of the bed is broken."""
    pieces, broken = look_at(image, start, size)
    if broken is not None:
        place, found, due = broken
        raise Broken(place, found, due)
    return pieces


def free_pieces(pieces):
    """A tuple of (p, n) of the free ones of the pieces."""
    return tuple([(p, n) for p, n, used in pieces if not used])


def first_broken_mark(image, start, size):
    """The first broken word of a heap's bed as a tuple (place, found, due), or None."""
    need_bed_in(image, start, size, LEAST_HEAP)
    return look_at(image, start, size)[1]


def pieces_in(image, start, size):
    """A list of the pieces (p, n, used) of a heap's bed, ascending."""
    need_bed_in(image, start, size, LEAST_HEAP)
    return sound_pieces(image, start, size)


def serves(p, n, size, align):
    """The place where a payload would begin in the free piece, or None if the piece does not serve."""
    need_whole(p, 0, MOST_TOP - 1, "p")
    need_whole(n, LEAST_PIECE, MOST_TOP, "n")
    need_whole(size, 1, MOST_TOP, "size")
    need_align(align, MOST_BED_ALIGN, "align")
    q = p + 1
    if q % align != 0:
        # What is left before the used piece must be large enough for a piece of its own.
        q = align_up(p + 1 + LEAST_PIECE, align)
    if q + size + 1 > p + n:
        return None
    return q


def is_no_piece(image, start, size, paper, wanted, *, align=1):
    """True if the paper lists the free pieces of a sound heap, and none of them serves."""
    need_bed_in(image, start, size, LEAST_HEAP)
    need_whole(wanted, 1, MOST_TOP, "wanted")
    need_align(align, MOST_BED_ALIGN, "align")
    pieces, broken = look_at(image, start, size)
    if broken is not None:
        return False
    rows = free_pieces(pieces)
    if not is_exactly(paper, ("heap", rows)):
        return False
    return all([serves(p, n, wanted, align) is None for p, n in rows])
