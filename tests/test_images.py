"""Points 18 and 19 and the interface of images.py."""

import random
import unittest

from allgivenback.images import apply_changes, changes, invert, is_changes, is_image, join_changes
from tests.helpers import HUGE, NO_INTEGERS, ODD_VALUES, check_wrong, told_by

HOLDERS = [0, *range(1, 9), *range(11, 19), *range(21, 29)]
NO_WORDS = (-1, 65536, HUGE, -HUGE) + NO_INTEGERS
NO_HOLDERS = (-1, 9, 10, 19, 20, 29, HUGE) + NO_INTEGERS


def blank(pages=1, width=16, fill=0):
    """An image of a ground that nobody holds."""
    return (width, fill, (fill,) * (pages * width), (0,) * (pages * width))


def random_image(rng, pages=1, width=16, fill=3):
    """An image with few different words and holders, so that two of them have much in common."""
    places = range(pages * width)
    return (
        width, fill, tuple(rng.choice((3, 4, 65535)) for _ in places), tuple(rng.choice((0, 1, 28)) for _ in places))


def bent_images():
    """Values that differ at one place from a right image."""
    width, fill, words, holders = blank(2)
    bent = [(odd, fill, words, holders) for odd in (0, 1, 8, 15, 17, 24, 48, 128, HUGE) + NO_INTEGERS]
    bent += [(width, odd, words, holders) for odd in NO_WORDS]
    for at in (0, 15, 31):
        bent += [(width, fill, words[:at] + (odd,) + words[at + 1:], holders) for odd in NO_WORDS]
        bent += [(width, fill, words, holders[:at] + (odd,) + holders[at + 1:]) for odd in NO_HOLDERS]
    bent += [(width, fill, odd, holders) for odd in (words[1:], words + (0,), list(words), (), words + words[:16])]
    bent += [(width, fill, words, odd) for odd in (holders[1:], holders + (0,), list(holders), ())]
    bent += [(width, fill, odd, holders) for odd in NO_INTEGERS + (0,)]
    bent += [(width, fill, words, odd) for odd in NO_INTEGERS + (0,)]
    bent += [(width, fill, words[:count], holders[:count]) for count in (0, 1, 15, 17, 31)]
    bent += [[width, fill, words, holders], (width, fill, words), (width, fill, words, holders, 0)]
    bent += [(16.0, fill, words, holders), (width, 0.0, words, holders), (width, fill, words[1:] + (0.0,), holders)]
    bent += [(width, fill, words, holders[1:] + (0.0,)), blank(257), blank(0), blank(257, 64), (32,) + blank(1)[1:], (64,) + blank(3)[1:]]
    return tuple(bent) + ODD_VALUES


NO_IMAGES = bent_images()
ROW = (5, 1, 2, 3, 4)


def bent_changes():
    """Values that differ at one place from right change rows."""
    bent = []
    for at, odds in enumerate((
            (-1, 16384, HUGE) + NO_INTEGERS, NO_WORDS, NO_HOLDERS, NO_WORDS, NO_HOLDERS)):
        bent += [[(0, 1, 1, 2, 2), ROW[:at] + (odd,) + ROW[at + 1:]] for odd in odds]
    bent += [[ROW, ROW], [ROW, (4, 0, 0, 1, 0)], [(5, 1, 2, 1, 2)], [(5, 0, 0, 0, 0)], [list(ROW)], [ROW[:4]]]
    bent += [[ROW + (0,)], (), (ROW,), {5: ROW}, ROW, [()], [None], [[]], ["abcde"], [5, 1, 2, 3, 4]]
    return tuple(bent) + tuple(value for value in ODD_VALUES if value != [])


NO_CHANGES = bent_changes()


class IsImageTest(unittest.TestCase):
    def test_right(self):
        for width in (16, 32, 64):
            for pages in (1, 2, 3, 255, 256):
                for fill in (0, 1, 65535):
                    self.assertIs(is_image(blank(pages, width, fill)), True)

    def test_all_holders_and_words(self):
        words = tuple([0, 1, 65534, 65535] * 8)
        for holder in HOLDERS:
            self.assertIs(is_image((16, 9, words, (holder,) * 32)), True)
        self.assertIs(is_image((32, 9, words, (0,) * 32)), True)

    def test_bent(self):
        for value in NO_IMAGES:
            self.assertIs(is_image(value), False)


class IsChangesTest(unittest.TestCase):
    def test_right(self):
        for value in (
                [], [ROW], [(0, 0, 0, 0, 1)], [(0, 0, 0, 1, 0)], [(16383, 65535, 28, 0, 0)],
                [(0, 1, 2, 3, 4), (1, 1, 2, 3, 4), (16383, 1, 2, 3, 4)], [(5, 1, 2, 1, 3)], [(5, 1, 2, 2, 2)]):
            self.assertIs(is_changes(value), True, value)
        for holder in HOLDERS:
            self.assertIs(is_changes([(3, 1, holder, 2, holder)]), True)
            self.assertIs(is_changes([(place, 1, holder, 2, holder) for place in range(16384)]), True)

    def test_bent(self):
        for value in NO_CHANGES:
            self.assertIs(is_changes(value), False, value)


class ChangesTest(unittest.TestCase):
    def test_one_row(self):
        before = blank()
        after = (16, 0, (0,) * 7 + (9,) + (0,) * 8, (0,) * 3 + (5,) + (0,) * 12)
        self.assertEqual(changes(before, after), [(3, 0, 0, 0, 5), (7, 0, 0, 9, 0)])
        self.assertEqual(changes(before, before), [])
        self.assertEqual(apply_changes(before, [(3, 0, 0, 0, 5), (7, 0, 0, 9, 0)]), after)

    def test_there_and_back(self):
        rng = random.Random(19)
        for _ in range(150):
            pages, width = rng.choice((1, 2, 3)), rng.choice((16, 32, 64))
            a, b, c = (random_image(rng, pages, width) for _ in range(3))
            rows, more = changes(a, b), changes(b, c)
            self.assertEqual(rows, self.plain_changes(a, b))
            self.assertIs(is_changes(rows), True)
            self.assertEqual(apply_changes(a, rows), b)
            self.assertIs(is_image(apply_changes(a, rows)), True)
            self.assertEqual(invert(rows), changes(b, a))
            self.assertEqual(apply_changes(b, invert(rows)), a)
            self.assertEqual(invert(invert(rows)), rows)
            self.assertEqual(join_changes(rows, more), changes(a, c))
            self.assertEqual(join_changes(rows, invert(rows)), [])
            self.assertEqual(join_changes(rows, []), rows)
            self.assertEqual(join_changes([], rows), rows)

    def plain_changes(self, before, after):
        """The rows of all places that differ."""
        places = zip(before[2], before[3], after[2], after[3])
        return [(at, *row) for at, row in enumerate(places) if row[:2] != row[2:]]

    def test_changes_wrong(self):
        others = (blank(2), blank(1, 32), blank(1, 16, 1), blank(2, 32))
        check_wrong(
            self, changes, {"before": blank(), "after": blank()},
            {"before": NO_IMAGES, "after": NO_IMAGES + others})
        same_places = (blank(2, 16), blank(1, 32))
        self.assertEqual(told_by(changes, *same_places), ("BadValue", ("after",)))

    def test_apply_wrong(self):
        unfit = (
            [(16, 0, 0, 1, 1)], [(3, 1, 0, 0, 0)], [(3, 0, 1, 0, 0)], [(3, 0, 0, 1, 1), (4, 0, 2, 1, 1)],
            [(0, 0, 0, 1, 0), (16383, 0, 0, 1, 0)])
        check_wrong(
            self, apply_changes, {"image": blank(), "rows": [(3, 0, 0, 1, 1)]},
            {"image": NO_IMAGES, "rows": NO_CHANGES + unfit})

    def test_invert_wrong(self):
        check_wrong(self, invert, {"rows": []}, {"rows": NO_CHANGES})
        self.assertEqual(invert([ROW]), [(5, 3, 4, 1, 2)])
        self.assertEqual(invert([]), [])

    def test_join_wrong(self):
        unfit = ([(5, 1, 2, 3, 4)], [(5, 3, 5, 1, 2)], [(5, 4, 4, 1, 2)], [(1, 0, 0, 1, 0), (5, 0, 0, 1, 0)])
        check_wrong(
            self, join_changes, {"first": [ROW], "second": [(5, 3, 4, 1, 2)]},
            {"first": NO_CHANGES, "second": NO_CHANGES + unfit})

    def test_join(self):
        first = [(2, 0, 0, 1, 1), (5, 1, 2, 3, 4)]
        second = [(1, 0, 0, 7, 0), (5, 3, 4, 3, 5), (9, 0, 0, 0, 1)]
        self.assertEqual(
            join_changes(first, second), [(1, 0, 0, 7, 0), (2, 0, 0, 1, 1), (5, 1, 2, 3, 5), (9, 0, 0, 0, 1)])
        self.assertEqual(join_changes(first, [(2, 1, 1, 0, 0)]), [(5, 1, 2, 3, 4)])

    def test_nothing_handed_in_is_changed(self):
        first, second = [(2, 0, 0, 1, 1), ROW], [(2, 1, 1, 0, 0), (9, 0, 0, 1, 1)]
        join_changes(first, second).append(None)
        invert(first).append(None)
        told_by(join_changes, first, [(2, 0, 0, 1, 1)])
        told_by(apply_changes, blank(), first)
        self.assertEqual(first, [(2, 0, 0, 1, 1), ROW])
        self.assertEqual(second, [(2, 1, 1, 0, 0), (9, 0, 0, 1, 1)])
        for rows in (join_changes(first, []), join_changes([], first)):
            self.assertIsNot(rows, first)
            rows.append(None)
        self.assertEqual(first, [(2, 0, 0, 1, 1), ROW])


if __name__ == "__main__":
    unittest.main()
