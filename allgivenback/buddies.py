"""The buddies: they part the zones into blocks, give blocks out and join them again."""

from allgivenback.basics import MAGIC, MAP, NOBODY, NoRoom, Unknown, is_holder, is_whole
from allgivenback.checks import is_flag, is_row, is_word, need, need_whole
from allgivenback.covers import is_cover, least_cover
from allgivenback.deeds import as_deed, need_held
from allgivenback.ground import Ground
from allgivenback.images import MOST_PAGES
from allgivenback.layout import FREE_CODE, GIVEN_CODE, MOST_ZONES, ROW_WORDS, has_map, map_pages, row_place
from allgivenback.layout import zone_place, zone_words
from allgivenback.places import Places
from allgivenback.spans import MOST_ORDER, align_down, blocks_of

MOST_LABEL = 999


def is_zone_row(row, number):
    """True if the row is a tuple (pages, kept, behind) for the zone with that number."""
    if not isinstance(row, tuple) or len(row) != 3 or not all([is_whole(value) for value in row]):
        return False
    pages, kept, behind = row
    return 1 <= pages <= MOST_PAGES and 0 <= kept <= pages and 0 <= behind < number


def zones_fit_in(ground, zones):
    """True if the value is a row of zone rows that fit in the ground beside the map."""
    if not is_row(zones) or not 1 <= len(zones) <= MOST_ZONES:
        return False
    if not all([is_zone_row(row, number) for number, row in enumerate(zones, start=1)]):
        return False
    front = map_pages(ground.pages, ground.width, len(zones))
    return front + sum([row[0] for row in zones]) <= ground.pages


def first_map_words(ground, zones):
    """The words of the map of a ground in which no block is given."""
    words = [MAGIC, len(zones)]
    codes = [0] * ground.pages
    first = map_pages(ground.pages, ground.width, len(zones))
    for pages, kept, behind in zones:
        words.extend([first, pages, kept, behind])
        for page, order in blocks_of(first, pages):
            codes[page] = FREE_CODE + order
        first = first + pages
    for code in codes:
        words.extend([code, 0, 0, 0])
    return words


def write_map(ground, zones):
    """Writes the map of a ground that is all nobody's; it does not cancel what it did before a refusal."""
    # Nobody's places are also looked at for words that are not fill.
    need_held(ground, 0, ground.top, NOBODY)
    ground.pass_on(0, ground.width * map_pages(ground.pages, ground.width, len(zones)), NOBODY, MAP)
    ground.write_row(0, first_map_words(ground, zones), MAP)


def start_buddies(ground, zones):
    """Writes the map of a ground that is all nobody's, and returns its Buddies."""
    need(isinstance(ground, Ground), "ground")
    need(zones_fit_in(ground, zones), "zones")
    as_deed(ground, lambda: write_map(ground, zones))
    return Buddies(ground)


class Buddies:
    """The blocks of a ground with a map."""

    def __init__(self, ground):
        need(isinstance(ground, Ground) and has_map(ground.image()), "ground")
        self.ground = ground

    def _zones(self):
        """The number of zones."""
        return self.ground.word_at(1)

    def _words_from(self, place):
        """The four words from a place on."""
        return tuple([self.ground.word_at(at) for at in range(place, place + ROW_WORDS)])

    def _row(self, page):
        """The four words of the page's map row."""
        return self._words_from(row_place(self._zones(), page))

    def _set_word(self, page, index, word):
        """Writes one of the four words of the page's map row."""
        self.ground.write(row_place(self._zones(), page) + index, word, MAP)

    def take(self, order, label, keeper, *, zone=1, urgent=False):
        """Gives a block to the keeper and returns its span."""
        need_whole(order, 0, MOST_ORDER, "order")
        need_whole(label, 1, MOST_LABEL, "label")
        need(is_holder(keeper) and keeper != NOBODY, "keeper")
        need_whole(zone, 1, self._zones(), "zone")
        need(is_flag(urgent), "urgent")
        page, whole = self._find(order, zone, urgent)
        span = (page * self.ground.width, self.ground.width << order)
        as_deed(self.ground, lambda: self._serve(page, whole, order, label, keeper))
        return span

    def _serve(self, page, whole, order, label, keeper):
        """Gives the lower end of a free block to the keeper."""
        self.ground.pass_on(page * self.ground.width, self.ground.width << order, NOBODY, keeper)
        self._split(page, whole, order)
        self._set_word(page, 0, GIVEN_CODE + order)
        self._set_word(page, 1, label)

    def _find(self, order, zone, urgent):
        """The first page and the order of the free block that serves; NoRoom if none does."""
        paper = []
        rows = self.zone_rows()
        while zone != 0:
            first, pages, kept, behind = rows[zone - 1]
            blocks = self._free_blocks(first, pages)
            free = sum([1 << each for each, _ in blocks])
            fitting = [block for block in blocks if block[0] >= order]
            if free < (1 << order) + (0 if urgent else kept):
                paper.append((zone, "few", free))
            elif fitting:
                whole, page = min(fitting)
                return (page, whole)
            else:
                paper.append((zone, "held", self._cover(first, pages, order)))
            zone = behind
        raise NoRoom(tuple(paper))

    def _cover(self, first, pages, order):
        """The least cover of the windows of so many pages in a zone."""
        held = Places([(first, pages)]) - self._free_in(first, pages)
        return least_cover(first, first + pages, 1 << order, held, align=1 << order)

    def _split(self, page, whole, order):
        """Splits a free block down to the order; the upper halves stay free."""
        while whole > order:
            whole = whole - 1
            self._set_word(page + (1 << whole), 0, FREE_CODE + whole)

    def give_back(self, start, keeper):
        """Makes a block free, joins it with its free buddies and returns its span."""
        need_whole(start, 0, self.ground.top - 1, "start")
        need(is_holder(keeper) and keeper != NOBODY, "keeper")
        block = self.block_at(start)
        if block is None or block[0] * self.ground.width != start:
            raise Unknown("start")
        page, order, _ = block
        as_deed(self.ground, lambda: self._free(page, order, keeper))
        return (start, self.ground.width << order)

    def _free(self, page, order, keeper):
        """Makes a given block of the keeper free."""
        self.ground.pass_on(page * self.ground.width, self.ground.width << order, keeper, NOBODY)
        self._clear_rows(page, order)
        self._join(page, order)

    def _clear_rows(self, page, order):
        """Sets the map rows of a block to zeros."""
        for each in range(page, page + (1 << order)):
            for index in range(ROW_WORDS):
                self._set_word(each, index, 0)

    def _join(self, page, order):
        """Writes the code of a free block, which takes in its buddy as long as that is free."""
        first, pages = self._zone_around(page)
        while order < MOST_ORDER:
            buddy = page ^ (1 << order)
            if not first <= buddy < first + pages or self._row(buddy)[0] != FREE_CODE + order:
                break
            self._set_word(buddy, 0, 0)
            page = min(page, buddy)
            order = order + 1
        self._set_word(page, 0, FREE_CODE + order)

    def _zone_around(self, page):
        """The first page and the number of pages of the zone of a page of a block."""
        rows = [row for row in self.zone_rows() if row[0] <= page]
        return rows[-1][:2]

    def set_note(self, page, first, second):
        """Sets the two notes of a page of a given block."""
        need_whole(page, 0, self.ground.pages - 1, "page")
        need(is_word(first), "first")
        need(is_word(second), "second")
        if self._block_of(page) is None:
            raise Unknown("page")
        self.ground.begin()
        self._set_word(page, 2, first)
        self._set_word(page, 3, second)
        self.ground.commit()

    def note_at(self, page):
        """The two notes of any page."""
        need_whole(page, 0, self.ground.pages - 1, "page")
        return self._row(page)[2:]

    def block_at(self, place):
        """A tuple (page, order, label) of the given block around the place, or None."""
        need_whole(place, 0, self.ground.top - 1, "place")
        return self._block_of(place // self.ground.width)

    def _block_of(self, page):
        """The given block around the page, or None."""
        for order in range(MOST_ORDER + 1):
            first = align_down(page, 1 << order)
            code, label = self._row(first)[:2]
            if code == GIVEN_CODE + order:
                return (first, order, label)
        return None

    def given(self, label=0):
        """All given blocks, or only those with the label, as block_at tells them."""
        need_whole(label, 0, MOST_LABEL, "label")
        blocks = [block for block in self.walk() if block[2] != 0]
        return [block for block in blocks if label == 0 or block[2] == label]

    def walk(self):
        """Generates all blocks of all zones, ascending; a free block has the label 0."""
        for row in self.zone_rows():
            for block in self._blocks_in(row[0], row[1]):
                yield block

    def _blocks_in(self, first, pages):
        """A list of all blocks of a zone, as walk tells them."""
        blocks = []
        page = first
        while page < first + pages:
            code, label = self._row(page)[:2]
            order = code - (FREE_CODE if label == 0 else GIVEN_CODE)
            blocks.append((page, order, label))
            page = page + (1 << order)
        return blocks

    def _free_blocks(self, first, pages):
        """A list of tuples (order, page) of the free blocks of a zone."""
        return [(order, page) for page, order, label in self._blocks_in(first, pages) if label == 0]

    def _free_in(self, first, pages):
        """The set of the free pages of a zone."""
        return Places([(page, 1 << order) for order, page in self._free_blocks(first, pages)])

    def free_pages(self, zone):
        """The set of the numbers of the free pages of a zone."""
        need_whole(zone, 1, self._zones(), "zone")
        first, pages = self.zone_rows()[zone - 1][:2]
        return self._free_in(first, pages)

    def zone_rows(self):
        """A tuple (first, pages, kept, behind) for each zone."""
        return [self._words_from(zone_place(zone)) for zone in range(1, self._zones() + 1)]


def nobodys_pages(image, first, pages):
    """The set of the pages of a zone whose places are all nobody's."""
    width = image[0]
    holders = image[3]
    empty = (NOBODY,) * width
    return Places([
        (page, 1) for page in range(first, first + pages) if holders[page * width:(page + 1) * width] == empty])


def is_right_row(image, zone, zone_row, order, row, urgent):
    """True if the row shows that the zone cannot serve."""
    if not isinstance(row, tuple) or len(row) != 3 or not is_whole(row[0]) or row[0] != zone:
        return False
    first, pages, kept = zone_row[:3]
    free = nobodys_pages(image, first, pages)
    if row[1] == "few":
        needed = (1 << order) + (0 if urgent else kept)
        return is_whole(row[2]) and row[2] == free.total and free.total < needed
    held = Places([(first, pages)]) - free
    return row[1] == "held" and is_cover(first, first + pages, 1 << order, held, row[2], align=1 << order)


def zones_behind(zone_rows, zone):
    """The numbers of the zones that a call for the zone looks at, in that order."""
    zones = []
    while zone != 0:
        zones.append(zone)
        zone = zone_rows[zone - 1][3]
    return zones


def is_no_block(image, order, paper, *, zone=1, urgent=False):
    """True if the paper shows that no zone can serve."""
    need(has_map(image), "image")
    need_whole(order, 0, MOST_ORDER, "order")
    zone_rows = zone_words(image[2])
    need_whole(zone, 1, len(zone_rows), "zone")
    need(is_flag(urgent), "urgent")
    zones = zones_behind(zone_rows, zone)
    if not isinstance(paper, tuple) or len(paper) != len(zones):
        return False
    return all([
        is_right_row(image, each, zone_rows[each - 1], order, row, urgent) for each, row in zip(zones, paper)])
