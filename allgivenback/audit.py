"""The audit: it finds the first broken word of a store in an image, and lists what the store has handed out."""

from allgivenback.basics import Broken, NOBODY, POISON, is_user
from allgivenback.buddies import MOST_LABEL
from allgivenback.checks import need, need_whole
from allgivenback.drawers import FIRST_LABEL
from allgivenback.extents import is_free_page, pages_in
from allgivenback.images import is_image
from allgivenback.layout import FREE_CODE, GIVEN_CODE, ROW_WORDS, given_in, has_map, notes_in, row_place, rows_from
from allgivenback.layout import zone_words
from allgivenback.mapped import FRAMED, MOST_VIRTUAL, NOTHING, OUT, OUT_STEP, USERS, table_order, table_rows
from allgivenback.marks import look_at, sound_pieces
from allgivenback.slabs import broken_in_slab, slots_in
from allgivenback.slots import class_align, class_order, class_sizes
from allgivenback.spans import MOST_ORDER
from allgivenback.store import EXTENT_LABEL, HEAP_LABEL, MOST_HEAP, PIECE, SLOT, SPACE_LABEL, WHOLE, beds_in

# The first words that a virtual page may have in a table: four times its state, and its rights.
TABLE_WORDS = (0, 4, 8, 9, 10, 12, 13, 14, 16, 17, 18)


def first_other(image, low, end, due):
    """The first place from low to the end with another word than is due, as a tuple (place, found, due), or None."""
    for place in range(low, end):
        if image[2][place] != due:
            return (place, image[2][place], due)
    return None


def map_place(image, page):
    """The place of the first word of the page's map row."""
    return row_place(image[2][1], page)


def block_of_code(code):
    """The order of the block with that code, and a flag for a free one; None if no block has the code."""
    if FREE_CODE <= code <= FREE_CODE + MOST_ORDER:
        return (code - FREE_CODE, True)
    if GIVEN_CODE <= code <= GIVEN_CODE + MOST_ORDER:
        return (code - GIVEN_CODE, False)
    return None


def can_begin(page, end, block, before):
    """True if a block can begin at a page of a zone with that end, behind the block (page, order, is_free) or None."""
    if block is None:
        return False
    order, is_free = block
    if page % (1 << order) != 0 or page + (1 << order) > end:
        return False
    # Two free buddies would have been joined.
    return order == MOST_ORDER or not is_free or before != (page ^ (1 << order), order, True)


def broken_rows(image, page, block):
    """The first broken word behind the code in the map rows of a block, or None."""
    order, is_free = block
    place = map_place(image, page) + 1
    label = image[2][place]
    if is_free != (label == 0) or label > MOST_LABEL:
        return (place, label, 0)
    for each in range(page, page + (1 << order)):
        row = map_place(image, each)
        # The notes of a given block may be any words, and its first page has a code and a label.
        found = first_other(image, row + (2 if each == page else 0), row + (ROW_WORDS if is_free else 2), 0)
        if found is not None:
            return found
    return None


def broken_zone(image, first, end):
    """The first broken word in the map rows of a zone, or None."""
    before = None
    page = first
    while page < end:
        place = map_place(image, page)
        block = block_of_code(image[2][place])
        if not can_begin(page, end, block, before):
            return (place, image[2][place], 0)
        found = broken_rows(image, page, block)
        if found is not None:
            return found
        before = (page,) + block
        page = page + (1 << block[0])
    return None


def first_broken_map(image):
    """The first broken word of the map as a tuple (place, found, due), or None."""
    need(has_map(image), "image")
    zones = zone_words(image[2])
    front = zones[0][0]
    base = map_place(image, 0)
    behind = base + ROW_WORDS * (zones[-1][0] + zones[-1][1])
    end = base + ROW_WORDS * (len(image[2]) // image[0])
    found = first_other(image, base, base + ROW_WORDS * front, 0)
    for first, count, _, _ in zones:
        if found is None:
            found = broken_zone(image, first, first + count)
    if found is None:
        found = first_other(image, behind, end, 0)
    if found is None:
        found = first_other(image, end, front * image[0], image[1])
    return found


def blocks_in(image):
    """A list of tuples (page, order, label) of all blocks of a sound map; pages in no zone are like free blocks."""
    rows = rows_from(image[2], map_place(image, 0), len(image[2]) // image[0])
    blocks = []
    page = zone_words(image[2])[0][0]
    while page < len(rows):
        code, label = rows[page][:2]
        order = block_of_code(code)[0] if code != 0 else 0
        blocks.append((page, order, label))
        page = page + (1 << order)
    return blocks


def extents_in(image):
    """A list of tuples (page, count, is_right) of the extents that begin in the arenas, ascending."""
    pages = pages_in(given_in(image, EXTENT_LABEL))
    held = {page: True for page in pages if not is_free_page(image, page)}
    rows = []
    edge = 0
    for page in pages:
        if page in held and page >= edge:
            count = notes_in(image, page)[0]
            is_right = count >= 1 and all([each in held for each in range(page, page + count)])
            rows.append((page, count, is_right))
            edge = page + count
    return rows


def broken_order(image, page, order, due):
    """The code of a block in the map, told as broken if the block has another order than is due."""
    if order == due:
        return None
    place = map_place(image, page)
    return (place, image[2][place], GIVEN_CODE + due)


def broken_free(image, low, end):
    """The first place of a free block that is not nobody's or has another word than fill, or None."""
    for place in range(low, end):
        if image[3][place] != NOBODY or image[2][place] != image[1]:
            return (place, image[2][place], image[1])
    return None


def broken_arena(image, page, order):
    """The first broken word of an arena, or of the notes of its pages, or None."""
    width = image[0]
    wrong = {first: count for first, count, is_right in extents_in(image) if not is_right}
    for each in pages_in([(page, order)]):
        found = None
        if is_free_page(image, each):
            found = first_other(image, each * width, (each + 1) * width, image[1])
        elif each in wrong:
            found = (map_place(image, each) + 2, wrong[each], 0)
        if found is not None:
            return found
    return None


def broken_slab(image, page, order, size):
    """The first broken word of a slab of a size class, or None."""
    found = broken_order(image, page, order, class_order(image[0], size))
    if found is not None:
        return found
    return broken_in_slab(image, page, order, class_align(size), (POISON,) * size)


def broken_block(image, block, arena, heap):
    """The first broken word of a block (page, order, label), or None."""
    page, order, label = block
    low = page * image[0]
    size = image[0] << order
    sizes = class_sizes(image[0])
    if label == 0:
        return broken_free(image, low, low + size)
    if FIRST_LABEL <= label < FIRST_LABEL + len(sizes):
        return broken_slab(image, page, order, sizes[label - FIRST_LABEL])
    found = None
    if label == EXTENT_LABEL:
        found = broken_order(image, page, order, arena)
        if found is None:
            found = broken_arena(image, page, order)
    elif label == HEAP_LABEL:
        found = broken_order(image, page, order, heap)
        if found is None:
            found = look_at(image, low, size)[1]
    return found


def real_pages(image, label):
    """The first pages of the given blocks of one page with the label."""
    return [page for page, order in given_in(image, label) if order == 0]


def broken_table(image, page, order, pages):
    """The first broken word of a table of so many virtual pages, or None."""
    width = image[0]
    found = broken_order(image, page, order, table_order(width, pages))
    if found is not None:
        return found
    named = {FRAMED: real_pages(image, SPACE_LABEL), OUT: real_pages(image, SPACE_LABEL + OUT_STEP)}
    low = page * width
    for at, (state, _, real) in enumerate(table_rows(image[2], low, pages)):
        place = low + 2 * at
        if image[2][place] not in TABLE_WORDS:
            return (place, image[2][place], 0)
        if real not in named.get(state, [0]):
            return (place + 1, real, 0)
    return first_other(image, low + 2 * pages, low + (width << order), image[1])


def tables_in(image):
    """A list of tuples (user, page, order) of the tables, in ascending order of user and then of page."""
    return [
        (user, page, order) for user in range(1, USERS + 1) for page, order in given_in(image, SPACE_LABEL + user)]


def broken_tables(image, pages):
    """The first broken word of the tables, or the label of a page that none of them names, or None."""
    for _, page, order in tables_in(image):
        found = broken_table(image, page, order, pages)
        if found is not None:
            return found
    named = [row[4] for row in spaces_of(image, pages) if row[2] in (FRAMED, OUT)]
    for page, _ in sorted(given_in(image, SPACE_LABEL) + given_in(image, SPACE_LABEL + OUT_STEP)):
        if page not in named:
            place = map_place(image, page) + 1
            return (place, image[2][place], 0)
    return None


def need_store_image(image, arena, heap, pages):
    """Raises BadValue for the first argument that does not tell a store in an image."""
    need(has_map(image), "image")
    need_whole(arena, 0, MOST_ORDER, "arena")
    need_whole(heap, 1, MOST_HEAP, "heap")
    need_whole(pages, 1, MOST_VIRTUAL, "pages")


def first_broken_word(image, *, arena=3, heap=2, pages=8):
    """The first broken word of a store as a tuple (place, found, due), or None."""
    need_store_image(image, arena, heap, pages)
    found = first_broken_map(image)
    if found is not None:
        return found
    for block in blocks_in(image):
        found = broken_block(image, block, arena, heap)
        if found is not None:
            return found
    return broken_tables(image, pages)


def slot_rows(image):
    """A list of tuples (start, size, holder, part) of the slots that users hold."""
    width = image[0]
    rows = []
    for number, size in enumerate(class_sizes(width)):
        slots = slots_in(image, FIRST_LABEL + number, class_order(width, size), size, class_align(size))
        rows.extend([(start, size, holder, SLOT) for start, holder in slots if is_user(holder)])
    return rows


def extent_rows(image):
    """A list of such tuples of the extents."""
    width = image[0]
    return [(page * width, count * width, image[3][page * width], WHOLE) for page, count, _ in extents_in(image)]


def piece_rows(image):
    """A list of such tuples of the payloads of the used pieces."""
    return [
        (p + 1, n - 2, image[3][p + 1], PIECE)
        for start, size in beds_in(image) for p, n, used in sound_pieces(image, start, size) if used]


def audit(image, *, arena=3, heap=2, pages=8):
    """A list of tuples (start, size, holder, part) of all handed-out spans, ascending; Broken if a word is broken."""
    found = first_broken_word(image, arena=arena, heap=heap, pages=pages)
    if found is not None:
        place, word, due = found
        raise Broken(place, word, due)
    return sorted(slot_rows(image) + extent_rows(image) + piece_rows(image))


def spaces_of(image, pages):
    """Does what spaces_in tells, once the arguments are looked at."""
    rows = []
    for user, page, _ in tables_in(image):
        table = table_rows(image[2], page * image[0], pages)
        rows.extend([(user, at) + row for at, row in enumerate(table) if row[0] != NOTHING])
    return rows


def spaces_in(image, *, pages=8):
    """A list of tuples (user, virtual_page, state, rights, page) of all pages not in state 0, ascending."""
    need(has_map(image), "image")
    need_whole(pages, 1, MOST_VIRTUAL, "pages")
    return spaces_of(image, pages)


def account(image):
    """A list of tuples (holder, number of its places), ascending."""
    need(is_image(image), "image")
    numbers = {}
    for holder in image[3]:
        numbers[holder] = numbers.get(holder, 0) + 1
    return sorted(list(numbers.items()))
