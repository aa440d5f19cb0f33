"""Where the map lies in the ground, and how it is read from an image."""

from allgivenback.basics import MAGIC, MAP
from allgivenback.checks import need, need_whole
from allgivenback.images import MOST_PAGES, is_image, is_width
from allgivenback.spans import MOST_ORDER

MOST_ZONES = 4
ROW_WORDS = 4
FREE_CODE = 1
GIVEN_CODE = 21


def row_place(zones, page):
    """The place of the first word of the page's map row."""
    need_whole(zones, 1, MOST_ZONES, "zones")
    need_whole(page, 0, MOST_PAGES - 1, "page")
    return 2 + ROW_WORDS * zones + ROW_WORDS * page


def zone_place(zone):
    """The place of the first of the zone's four words."""
    return 2 + ROW_WORDS * (zone - 1)


def map_pages(pages, width, zones):
    """The number of map pages."""
    need_whole(pages, 1, MOST_PAGES, "pages")
    need(is_width(width), "width")
    need_whole(zones, 1, MOST_ZONES, "zones")
    words = 2 + ROW_WORDS * zones + ROW_WORDS * pages
    return (words + width - 1) // width


def rows_from(words, place, count):
    """So many tuples of four words, from the place on."""
    starts = range(place, place + ROW_WORDS * count, ROW_WORDS)
    return [tuple(words[start:start + ROW_WORDS]) for start in starts]


def zones_fit(rows, front, pages):
    """True if the zone rows lie behind one another from page `front` on and are as points 20 and 22 tell."""
    due = front
    for number, (first, count, kept, behind) in enumerate(rows, start=1):
        if first != due or count < 1 or first + count > pages or kept > count or behind >= number:
            return False
        due = first + count
    return True


def has_map(value):
    """True if the value is an image with a map, whatever its map rows are."""
    if not is_image(value):
        return False
    width, _, words, holders = value
    pages = len(words) // width
    zones = words[1]
    if words[0] != MAGIC or not 1 <= zones <= MOST_ZONES:
        return False
    front = map_pages(pages, width, zones)
    if front > pages or any([holder != MAP for holder in holders[:front * width]]):
        return False
    return zones_fit(zone_words(words), front, pages)


def zone_words(words):
    """The zone rows that stand in the words of an image with a map."""
    return rows_from(words, zone_place(1), words[1])


def read_zones(image):
    """A tuple (first, pages, kept, behind) for each zone."""
    need(has_map(image), "image")
    return zone_words(image[2])


def read_rows(image):
    """A tuple of the four words of its map row for each page."""
    need(has_map(image), "image")
    words = image[2]
    return rows_from(words, row_place(words[1], 0), len(words) // image[0])


def is_block(page, order, pages):
    """True if a ground of so many pages can have a block of the order from the page on."""
    return 0 <= order <= MOST_ORDER and page % (1 << order) == 0 and page + (1 << order) <= pages


def given_in(image, label):
    """A list of tuples (page, order) of the given blocks with the label, ascending, of an image with a map."""
    words = image[2]
    pages = len(words) // image[0]
    base = row_place(words[1], 0)
    end = base + ROW_WORDS * pages
    codes = words[base:end:ROW_WORDS]
    labels = words[base + 1:end:ROW_WORDS]
    blocks = [(page, codes[page] - GIVEN_CODE) for page in range(pages) if labels[page] == label]
    # The judges are also asked of damaged maps, so what cannot be a block there is left out.
    return [(page, order) for page, order in blocks if is_block(page, order, pages)]


def notes_in(image, page):
    """The two notes of a page in an image with a map."""
    place = row_place(image[2][1], page)
    return image[2][place + 2:place + ROW_WORDS]
