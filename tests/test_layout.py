"""Point 20 and the interface of layout.py."""

import itertools
import random
import unittest

from allgivenback.layout import has_map, map_pages, read_rows, read_zones, row_place
from tests.helpers import HUGE, NO_INTEGERS, check_wrong, no_integer_in
from tests.test_images import HOLDERS, NO_IMAGES, blank

NO_WIDTHS = (0, 1, 15, 17, 24, 48, 128, HUGE) + NO_INTEGERS


def plain_map_pages(pages, width, zones):
    """The fewest pages with room for the words of the map."""
    return next(count for count in itertools.count() if count * width >= 2 + 4 * zones + 4 * pages)


def map_image(pages, width, zones, fill=0):
    """An image with a map whose map rows are all zeros; zones holds rows (pages, kept, behind)."""
    front = plain_map_pages(pages, width, len(zones))
    words, first = [4711, len(zones)], front
    for row in zones:
        words += [first, *row]
        first += row[0]
    words += [0, 0, 0, 0] * pages
    words += [fill] * (pages * width - len(words))
    return (width, fill, tuple(words), (21,) * (front * width) + (0,) * ((pages - front) * width))


def with_word(image, place, word):
    """The image with another word."""
    width, fill, words, holders = image
    return (width, fill, words[:place] + (word,) + words[place + 1:], holders)


def with_holder(image, place, holder):
    """The image with another holder."""
    width, fill, words, holders = image
    return (width, fill, words, holders[:place] + (holder,) + holders[place + 1:])


def images_without_map():
    """Right images that miss one condition of a map each."""
    # 14 pages of 16 words: the map has 2 + 8 + 56 words on the pages 0 to 4.
    good = map_image(14, 16, [(4, 1, 0), (3, 3, 1)])
    bent = [with_word(good, 0, word) for word in (0, 4710, 4712, 65535)]
    bent += [with_word(good, 1, word) for word in (0, 1, 3, 4, 5, 6, 255, 65535)]
    bent += [with_word(good, 2, word) for word in (0, 4, 6, 65535)]
    bent += [with_word(good, 3, word) for word in (0, 3, 5, 9, 65535)]
    bent += [with_word(good, 4, word) for word in (5, 6, 65535)]
    bent += [with_word(good, 5, word) for word in (1, 2, 65535)]
    bent += [with_word(good, 6, word) for word in (0, 5, 8, 10, 65535)]
    bent += [with_word(good, 7, word) for word in (0, 2, 6, 65535)]
    bent += [with_word(good, 8, word) for word in (4, 5, 65535)]
    bent += [with_word(good, 9, word) for word in (2, 3, 65535)]
    for holder in HOLDERS:
        if holder != 21:
            bent += [with_holder(good, place, holder) for place in (0, 1, 9, 10, 65, 66, 79)]
    width, fill, words, holders = good
    bent.append((width, fill, words[:11 * 16], holders[:11 * 16]))
    bent += [blank(), blank(256, 64), map_image(14, 16, []), map_image(14, 16, [(4, 1, 0), (0, 0, 0)])]
    bent += [map_image(14, 16, [(0, 0, 0), (3, 3, 1)]), map_image(14, 16, [(0, 0, 0)])]
    # As many pages as map pages, or fewer.
    bent.append((16, 0, (4711, 1, 2, 1, 0, 0) + (0,) * 10, (21,) * 16))
    bent.append((16, 0, (4711, 4, 2, 1, 0, 0, 3, 1, 0, 0, 4, 1, 0, 0, 5, 1), (21,) * 16))
    return tuple(bent)


NO_MAPS = NO_IMAGES + images_without_map()


class NumbersTest(unittest.TestCase):
    def test_map_pages(self):
        for pages, width, zones in itertools.product((1, 2, 3, 7, 12, 100, 255, 256), (16, 32, 64), (1, 2, 3, 4)):
            self.assertEqual(map_pages(pages, width, zones), plain_map_pages(pages, width, zones))
        self.assertEqual([map_pages(1, 16, 1), map_pages(1, 16, 2), map_pages(1, 16, 4)], [1, 1, 2])
        self.assertEqual([map_pages(256, 16, 4), map_pages(256, 64, 1), map_pages(12, 16, 1)], [66, 17, 4])
        # 2 + 4 + 4 * 6 is 30, and 2 + 4 * 2 + 4 * 13 is 62: both stay just below the end of a page.
        self.assertEqual([map_pages(6, 32, 1), map_pages(7, 32, 1)], [1, 2])
        self.assertEqual([map_pages(13, 64, 2), map_pages(14, 64, 2)], [1, 2])

    def test_row_place(self):
        for zones in (1, 2, 3, 4):
            for page in (0, 1, 2, 254, 255):
                self.assertEqual(row_place(zones, page), 2 + 4 * zones + 4 * page)

    def test_wrong(self):
        zones = no_integer_in(1, 4)
        check_wrong(
            self, map_pages, {"pages": 1, "width": 16, "zones": 1},
            {"pages": no_integer_in(1, 256), "width": NO_WIDTHS, "zones": zones})
        check_wrong(
            self, row_place, {"zones": 1, "page": 0}, {"zones": zones, "page": no_integer_in(0, 255)})


class HasMapTest(unittest.TestCase):
    def test_right(self):
        for pages, width, zones in (
                (14, 16, [(4, 1, 0), (3, 3, 1)]), (12, 16, [(8, 0, 0)]), (12, 16, [(1, 1, 0)]),
                (256, 64, [(100, 0, 0), (39, 39, 0), (50, 1, 2), (50, 50, 3)]), (3, 16, [(1, 0, 0)]),
                (256, 16, [(190, 190, 0)]), (256, 32, [(1, 0, 0), (1, 1, 1), (1, 0, 1), (1, 0, 2)])):
            for fill in (0, 65535):
                image = map_image(pages, width, zones, fill)
                self.assertIs(has_map(image), True)
                front = plain_map_pages(pages, width, len(zones))
                due, first = [], front
                for count, kept, behind in zones:
                    due.append((first, count, kept, behind))
                    first += count
                self.assertEqual(read_zones(image), due)

    def test_zone_ends_with_the_ground(self):
        self.assertIs(has_map(map_image(12, 16, [(8, 8, 0)])), True)
        self.assertIs(has_map(map_image(12, 16, [(9, 0, 0)])), False)
        self.assertIs(has_map(map_image(12, 16, [(6, 0, 0), (1, 0, 0)])), True)
        self.assertIs(has_map(map_image(12, 16, [(6, 0, 0), (2, 0, 0)])), True)
        self.assertIs(has_map(map_image(12, 16, [(6, 0, 0), (3, 0, 0)])), False)

    def test_broken(self):
        for image in NO_MAPS:
            self.assertIs(has_map(image), False)

    def test_rows_and_rest_are_not_looked_at(self):
        good = map_image(14, 16, [(4, 1, 0), (3, 3, 1)], 7)
        for place in range(10, 14 * 16):
            self.assertIs(has_map(with_word(good, place, 999)), True)
        for place in range(80, 14 * 16):
            self.assertIs(has_map(with_holder(good, place, 5)), True)

    def test_other_zone_words(self):
        good = map_image(14, 16, [(4, 1, 0), (3, 3, 1)])
        for place, word in ((4, 0), (4, 4), (7, 1), (8, 0), (8, 2), (9, 0)):
            bent = good if place != 7 else with_word(good, 8, 1)
            self.assertIs(has_map(with_word(bent, place, word)), True, (place, word))


class ReadTest(unittest.TestCase):
    def test_read_rows(self):
        rng = random.Random(20)
        for pages, width, zones in ((14, 16, [(4, 1, 0), (3, 3, 1)]), (256, 64, [(9, 0, 0)])):
            image = map_image(pages, width, zones, 7)
            rows = [tuple(rng.randrange(65536) for _ in range(4)) for _ in range(pages)]
            start = 2 + 4 * len(zones)
            words = image[2][:start] + tuple(itertools.chain(*rows)) + image[2][start + 4 * pages:]
            self.assertEqual(read_rows((width, 7, words, image[3])), rows)
            self.assertEqual(read_zones((width, 7, words, image[3])), read_zones(image))

    def test_lists_are_new(self):
        image = map_image(12, 16, [(8, 0, 0)])
        read_rows(image).clear()
        read_zones(image).clear()
        self.assertEqual([len(read_rows(image)), len(read_zones(image))], [12, 1])

    def test_wrong(self):
        good = {"image": map_image(12, 16, [(8, 0, 0)])}
        for call in (read_zones, read_rows):
            check_wrong(self, call, good, {"image": NO_MAPS})


if __name__ == "__main__":
    unittest.main()
