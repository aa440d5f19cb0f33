"""Point 11 and the interface of covers.py."""

import itertools
import random
import unittest

from allgivenback.covers import is_cover, least_cover, windows
from allgivenback.places import Places
from tests.helpers import HUGE, NO_INTEGERS, ODD_VALUES, check_wrong, no_align_upto, no_integer_in, told_by

NO_PLACES = NO_INTEGERS + (0, 1, [(0, 1)], ((0, 1),), Places)
RANGE_WRONG = {"low": no_integer_in(0, 20000), "high": no_integer_in(0, 20000), "size": no_integer_in(1, 20000)}
ALIGN_WRONG = no_align_upto(16384)


def plain_windows(low, high, size, align):
    """The starts of all windows, one place after the other."""
    return [start for start in range(low, high) if start % align == 0 and start + size <= high]


def plain_cover(low, high, size, held, align, cover):
    """Point 11 word by word, for a tuple of integers."""
    if list(cover) != sorted(set(cover)) or not all(place in held and low <= place < high for place in cover):
        return False
    return all(
        any(start <= place < start + size for place in cover) for start in plain_windows(low, high, size, align))


def places_of(held):
    """A Places object of a plain set."""
    return Places([(place, 1) for place in held])


class WindowsTest(unittest.TestCase):
    def test_small_ranges(self):
        for low, high, size, align in itertools.product(range(9), range(12), range(1, 14), (1, 2, 4, 8, 16)):
            if low <= high:
                starts = windows(low, high, size, align=align)
                self.assertEqual(starts, plain_windows(low, high, size, align))
                self.assertIs(type(starts), list)
        self.assertEqual(windows(0, 5, 3), [0, 1, 2])

    def test_edges(self):
        self.assertEqual(windows(0, 0, 1), [])
        self.assertEqual(windows(20000, 20000, 1), [])
        self.assertEqual(windows(0, 20000, 20000), [0])
        self.assertEqual(windows(0, 20000, 1), list(range(20000)))
        self.assertEqual(windows(19999, 20000, 1), [19999])
        self.assertEqual(windows(1, 20000, 1, align=16384), [16384])
        self.assertEqual(windows(0, 20000, 1, align=16384), [0, 16384])
        self.assertEqual(windows(16385, 20000, 1, align=16384), [])

    def test_new_list(self):
        windows(0, 4, 2).append(9)
        self.assertEqual(windows(0, 4, 2), [0, 1, 2])

    def test_wrong(self):
        check_wrong(
            self, windows, {"low": 0, "high": 8, "size": 2, "align": 2}, {**RANGE_WRONG, "align": ALIGN_WRONG},
            named=("align",))
        self.assertEqual(told_by(windows, 5, 4, 1), ("BadValue", ("high",)))
        self.assertEqual(told_by(windows, 5, 4, 0, align=3), ("BadValue", ("high",)))
        self.assertEqual(windows(5, 5, 1), [])


class LeastCoverTest(unittest.TestCase):
    def test_example(self):
        self.assertEqual(least_cover(0, 8, 3, Places([(2, 1), (5, 1)])), (2, 5))

    def test_against_plain_search(self):
        for low, high, size, align in itertools.product((0, 1, 3), (3, 6, 8), (1, 2, 3, 4), (1, 2, 4)):
            for bits in range(0, 256, 3):
                held = {place for place in range(8) if bits >> place & 1}
                self.look(low, high, size, align, held)

    def look(self, low, high, size, align, held):
        """Compares the least cover with all covers of a small range."""
        found = least_cover(low, high, size, places_of(held), align=align)
        inside = sorted(place for place in held if low <= place < high)
        everything = plain_cover(low, high, size, held, align, inside)
        self.assertEqual(found is not None, everything)
        if found is None:
            return
        self.assertIs(type(found), tuple)
        self.assertTrue(plain_cover(low, high, size, held, align, found))
        self.assertEqual(found, self.greedy(low, high, size, align, held))
        for fewer in itertools.combinations(inside, len(found) - 1 if found else 0):
            self.assertEqual(not found, plain_cover(low, high, size, held, align, fewer))

    def greedy(self, low, high, size, align, held):
        """The places that point 11 takes."""
        taken = []
        for start in plain_windows(low, high, size, align):
            if not any(start <= place < start + size for place in taken):
                taken.append(max(place for place in held if start <= place < start + size))
        return tuple(taken)

    def test_no_windows(self):
        for held in (Places(), Places([(0, 20)])):
            self.assertEqual(least_cover(3, 3, 1, held), ())
            self.assertEqual(least_cover(0, 4, 5, held), ())
            self.assertEqual(least_cover(1, 8, 1, held, align=8), ())
            self.assertEqual(least_cover(0, 0, 20000, held), ())

    def test_held_places_outside(self):
        self.assertIsNone(least_cover(2, 4, 2, Places([(0, 2), (4, 9)])))
        self.assertEqual(least_cover(2, 4, 2, Places([(0, 9)])), (3,))
        self.assertEqual(least_cover(2, 5, 2, Places([(0, 9)])), (3,))
        self.assertEqual(least_cover(2, 6, 2, Places([(0, 9)])), (3, 5))

    def test_greatest_is_taken(self):
        self.assertEqual(least_cover(0, 10, 4, Places([(0, 10)])), (3, 7))
        self.assertEqual(least_cover(0, 8, 4, Places([(0, 8)]), align=4), (3, 7))
        self.assertEqual(least_cover(0, 8, 2, Places([(0, 8)]), align=4), (1, 5))

    def test_wrong(self):
        good = {"low": 0, "high": 8, "size": 2, "held": Places(), "align": 2}
        bad = {**RANGE_WRONG, "held": NO_PLACES, "align": ALIGN_WRONG}
        check_wrong(self, least_cover, good, bad, named=("align",))
        self.assertEqual(told_by(least_cover, 5, 4, 1, Places()), ("BadValue", ("high",)))
        self.assertEqual(told_by(least_cover, 5, 4, 0, None, align=0), ("BadValue", ("high",)))

    def test_size(self):
        held = Places([(0, 20000)])
        self.assertEqual(least_cover(0, 20000, 1, held), tuple(range(20000)))
        self.assertEqual(least_cover(0, 20000, 20000, held), (19999,))
        odd = Places([(place, 1) for place in range(1, 20000, 2)])
        self.assertEqual(least_cover(0, 20000, 2, odd), tuple(range(1, 20000, 2)))
        self.assertIsNone(least_cover(0, 20000, 1, odd))

    def test_more_than_20000_spans(self):
        odd = Places([(place, 1) for place in range(1, 20000, 2)])
        far = Places([(place, 1) for place in range(20001, 60001, 2)])
        self.assertEqual(least_cover(0, 20000, 2, odd + far), tuple(range(1, 20000, 2)))
        self.assertIs(is_cover(0, 20000, 2, odd + far, tuple(range(1, 20000, 2))), True)

    def test_held_is_not_changed(self):
        held = Places([(2, 1), (5, 1)])
        least_cover(0, 8, 3, held)
        is_cover(0, 8, 3, held, (2, 5))
        self.assertEqual(held.spans, [(2, 1), (5, 1)])


class IsCoverTest(unittest.TestCase):
    def test_against_plain_judge(self):
        for low, high, size, align in itertools.product((0, 2), (2, 5, 6), (1, 2, 3), (1, 2)):
            for bits in range(64):
                held = {place for place in range(6) if bits >> place & 1}
                places = places_of(held)
                for count in range(4):
                    for cover in itertools.combinations(range(6), count):
                        self.assertIs(
                            is_cover(low, high, size, places, cover, align=align),
                            plain_cover(low, high, size, held, align, cover))

    def test_least_covers_are_covers(self):
        rng = random.Random(14)
        for _ in range(300):
            low = rng.randrange(20)
            high = low + rng.randrange(60)
            size, align = rng.randint(1, 9), rng.choice((1, 2, 4, 8))
            held = places_of({rng.randrange(90) for _ in range(rng.randrange(80))})
            cover = least_cover(low, high, size, held, align=align)
            if cover is not None:
                self.assertIs(is_cover(low, high, size, held, cover, align=align), True)
                for at in range(len(cover)):
                    fewer = cover[:at] + cover[at + 1:]
                    self.assertIs(is_cover(low, high, size, held, fewer, align=align), False)

    def test_bent_at_one_place(self):
        held = Places([(0, 9)])
        self.assertIs(is_cover(1, 8, 3, held, (3, 6)), True)
        self.assertIs(is_cover(1, 8, 3, held, (1, 3, 6)), True)
        for cover in (
                [3, 6], (6, 3), (3, 3, 6), (3,), (6,), (), (3, 7), (0, 3, 6), (3, 6, 8), (3, 6, 9), (3, 6, None),
                (3, "6"), (True, 3, 6), (3, 6.0), (3, (6,)), (3, [6]), (3, 6, HUGE), (-1, 3, 6), (-HUGE, 3, 6)):
            self.assertIs(is_cover(1, 8, 3, held, cover), False, cover)
        self.assertIs(is_cover(1, 8, 3, Places([(3, 1), (5, 1)]), (3, 6)), False)

    def test_no_windows(self):
        held = Places([(2, 3)])
        for cover in ((), (2,), (2, 3, 4), (4,)):
            self.assertIs(is_cover(1, 8, 9, held, cover), True)
        for cover in ((1,), (5,), (3, 2), [2], None):
            self.assertIs(is_cover(1, 8, 9, held, cover), False)
        self.assertIs(is_cover(3, 3, 1, held, ()), True)
        self.assertIs(is_cover(3, 3, 1, held, (3,)), False)

    def test_any_value_is_judged(self):
        for value in ODD_VALUES + (Places(),):
            self.assertIs(is_cover(0, 3, 1, Places([(0, 3)]), value), False, value)
            self.assertIs(is_cover(0, 3, 2, Places([(5, 3)]), value), False, value)
            self.assertIs(is_cover(0, 3, 5, Places(), value), value == () and isinstance(value, tuple), value)

    def test_wrong(self):
        good = {"low": 0, "high": 8, "size": 2, "held": Places(), "cover": (), "align": 2}
        bad = {**RANGE_WRONG, "held": NO_PLACES, "align": ALIGN_WRONG}
        for cover in ((), None, [1], (0, 1)):
            check_wrong(self, is_cover, {**good, "cover": cover}, bad, named=("align",))
        self.assertEqual(told_by(is_cover, 5, 4, 1, Places(), ()), ("BadValue", ("high",)))

    def test_size(self):
        held = Places([(0, 20000)])
        self.assertIs(is_cover(0, 20000, 1, held, tuple(range(20000))), True)
        self.assertIs(is_cover(0, 20000, 1, held, tuple(range(19999))), False)
        self.assertIs(is_cover(0, 20000, 2, held, tuple(range(1, 20000, 2))), True)
        self.assertIs(is_cover(0, 20000, 20000, held, (0,)), True)


if __name__ == "__main__":
    unittest.main()
