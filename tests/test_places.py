"""Points 9 and 10 and the interface of places.py."""

import itertools
import random
import unittest

from allgivenback.places import Places
from tests.helpers import HUGE, NO_INTEGERS, ODD_VALUES, check_wrong, no_align_upto, no_integer_in, told_by
from tests.test_spans import MOST, NO_SPANS

MOST_ALIGN = 1073741824


def places_in(spans):
    """The plain set of the places of some spans."""
    return {place for start, size in spans for place in range(start, start + size)}


def fewest_spans(places):
    """The fewest spans of a plain set of places."""
    spans = []
    for place in sorted(places):
        if spans and sum(spans[-1]) == place:
            spans[-1] = (spans[-1][0], spans[-1][1] + 1)
        else:
            spans.append((place, 1))
    return spans


def random_spans(rng, top=40):
    """Some spans in any order, that may overlap, touch and repeat."""
    spans = [(rng.randrange(top), rng.randint(1, 6)) for _ in range(rng.randrange(9))]
    return spans + rng.sample(spans, len(spans) // 3)


class MakingTest(unittest.TestCase):
    def test_example(self):
        self.assertEqual(Places([(4, 2), (0, 3), (6, 1)]).spans, [(0, 3), (4, 3)])

    def test_left_out_and_empty(self):
        for places in (Places(), Places(()), Places([]), Places(spans=[])):
            self.assertEqual(places.spans, [])
            self.assertEqual(places.total, 0)
            self.assertEqual(list(places), [])
            self.assertIs(bool(places), False)

    def test_against_plain_sets(self):
        rng = random.Random(9)
        for _ in range(400):
            spans = random_spans(rng)
            places = Places(rng.choice((list, tuple))(spans))
            due = places_in(spans)
            self.assertEqual(places.spans, fewest_spans(due))
            self.assertEqual(places.total, len(due))
            self.assertEqual(list(places), fewest_spans(due))
            self.assertIs(bool(places), bool(due))

    def test_touching_overlapping_repeated(self):
        self.assertEqual(Places([(0, 2), (2, 2)]).spans, [(0, 4)])
        self.assertEqual(Places([(2, 2), (0, 3)]).spans, [(0, 4)])
        self.assertEqual(Places(((5, 1), (5, 1))).spans, [(5, 1)])
        self.assertEqual(Places([(0, 10), (2, 3)]).spans, [(0, 10)])
        self.assertEqual(Places([(0, 1), (2, 1)]).spans, [(0, 1), (2, 1)])
        self.assertEqual(Places([(0, MOST)]).spans, [(0, MOST)])
        self.assertEqual(Places([(MOST - 1, 1), (0, 1)]).total, 2)

    def test_nothing_handed_in_is_changed_or_kept(self):
        row = [(4, 2), (0, 3)]
        places = Places(row)
        self.assertEqual(row, [(4, 2), (0, 3)])
        row.append((100, 1))
        row[0] = (50, 1)
        self.assertEqual(places.spans, [(0, 3), (4, 2)])

    def test_lists_are_new(self):
        places = Places([(0, 3)])
        places.spans.append((9, 1))
        self.assertEqual(places.spans, [(0, 3)])
        self.assertEqual(places.total, 3)

    def test_wrong_rows(self):
        rows = [[span] for span in NO_SPANS] + [[(0, 1), span] for span in NO_SPANS]
        rows += [None, True, False, 0, 1, HUGE, "", "ab", {}, {(0, 1): 1}, {(0, 1)}, 1.0, b"", object()]
        rows += [Places(), Places([(0, 1)]), range(0), iter([]), (0, 1), [0, 1]]
        check_wrong(self, Places, {"spans": ()}, {"spans": rows})
        check_wrong(self, Places, {"spans": ()}, {"spans": rows}, named=("spans",))

    def test_size(self):
        row = [(4 * k, 2) for k in range(20000)]
        self.assertEqual(Places(row).spans, row)
        self.assertEqual(Places(row[::-1]).total, 40000)
        self.assertEqual(told_by(Places, row + [(0, 1)]), ("BadValue", ("spans",)))
        self.assertEqual(Places([(0, 1)] * 20000).spans, [(0, 1)])
        self.assertEqual(told_by(Places, [(0, 1)] * 20001), ("BadValue", ("spans",)))


class OperatorTest(unittest.TestCase):
    def test_against_plain_sets(self):
        rng = random.Random(10)
        for _ in range(600):
            first, second = random_spans(rng), random_spans(rng)
            a, b = Places(first), Places(second)
            mine, others = places_in(first), places_in(second)
            for result, due in ((a + b, mine | others), (a - b, mine - others), (a & b, mine & others)):
                self.assertIs(type(result), Places)
                self.assertEqual(result.spans, fewest_spans(due))
                self.assertEqual(result.total, len(due))
            self.assertIs(a == b, mine == others)
            self.assertIs(a != b, mine != others)
            self.assertEqual(a.spans, fewest_spans(mine))
            self.assertEqual(b.spans, fewest_spans(others))

    def test_edges(self):
        whole = Places([(0, MOST)])
        self.assertEqual((whole - Places([(0, 1), (MOST - 1, 1)])).spans, [(1, MOST - 2)])
        self.assertEqual((whole - Places()).spans, [(0, MOST)])
        self.assertEqual((whole - whole).spans, [])
        self.assertEqual((Places([(0, 5), (9, 1)]) & whole).spans, [(0, 5), (9, 1)])
        self.assertEqual((Places([(0, 5)]) + Places([(5, 1)])).spans, [(0, 6)])
        self.assertEqual((whole & Places([(MOST - 1, 1)])).spans, [(MOST - 1, 1)])
        one = Places([(3, 4)])
        self.assertEqual([(one + one).spans, (one & one).spans, (one - one).spans], [[(3, 4)], [(3, 4)], []])

    def test_equal(self):
        self.assertTrue(Places([(0, 2), (2, 3)]) == Places([(0, 5)]))
        self.assertFalse(Places([(0, 2), (2, 3)]) != Places([(0, 5)]))
        self.assertFalse(Places([(0, 5)]) == Places([(0, 4)]))
        self.assertTrue(Places([(0, 5)]) != Places([(0, 4)]))
        self.assertTrue(Places() == Places())

    def test_equal_with_other_values(self):
        for places in (Places(), Places([(0, 1)])):
            for value in ODD_VALUES + ([(0, 1)], ((0, 1),), places.spans):
                self.assertIs(places == value, False, value)
                self.assertIs(places != value, True, value)

    def test_in(self):
        rng = random.Random(11)
        for _ in range(100):
            spans = random_spans(rng)
            places, due = Places(spans), places_in(spans)
            for place in range(-3, 60):
                self.assertIs(place in places, place in due)
                self.assertIs(place not in places, place not in due)

    def test_in_for_other_values(self):
        places = Places([(0, MOST)])
        for value in NO_INTEGERS + ((0, 1), [0, 1], -1, MOST, HUGE, -HUGE):
            self.assertIs(value in places, False, value)
        for value in (0, 1, MOST - 1):
            self.assertIs(value in places, True, value)
            self.assertIs(value in Places(), False, value)

    def test_many_spans(self):
        a = Places([(4 * k, 1) for k in range(20000)])
        b = Places([(4 * k + 2, 1) for k in range(20000)])
        both = a + b
        self.assertEqual(both.spans, [(2 * k, 1) for k in range(40000)])
        self.assertEqual(both.total, 40000)
        c = Places([(100000 + 2 * k, 1) for k in range(20000)])
        more = both + c
        self.assertEqual(len(more.spans), len(set(range(0, 80000, 2)) | set(range(100000, 140000, 2))))
        self.assertTrue(more - c == both)
        self.assertTrue((more & both) == both)
        self.assertEqual((more - both).spans, c.spans)
        self.assertTrue(both + b == both)
        self.assertTrue(both - a == b)
        self.assertTrue(78 in both)
        self.assertFalse(79 in both)

    def test_iteration_twice(self):
        places = Places([(0, 1), (4, 2)])
        self.assertEqual([span for span in places], [(0, 1), (4, 2)])
        pairs = list(itertools.product(places, places))
        self.assertEqual(len(pairs), 4)


class SearchTest(unittest.TestCase):
    def test_covers(self):
        rng = random.Random(12)
        for _ in range(60):
            spans = random_spans(rng, 20)
            places, due = Places(spans), places_in(spans)
            for start, size in itertools.product(range(26), range(1, 9)):
                answer = places.covers((start, size))
                self.assertIs(answer, all(place in due for place in range(start, start + size)))

    def test_covers_edges(self):
        self.assertIs(Places().covers((0, 1)), False)
        self.assertIs(Places([(0, MOST)]).covers((0, MOST)), True)
        self.assertIs(Places([(1, MOST - 1)]).covers((0, MOST)), False)
        self.assertIs(Places([(1, MOST - 2)]).covers((1, MOST - 1)), False)
        check_wrong(self, Places([(0, 9)]).covers, {"span": (0, 1)}, {"span": NO_SPANS})

    def test_starts_against_plain_search(self):
        rng = random.Random(13)
        for _ in range(150):
            spans = random_spans(rng, 30)
            places, due = Places(spans), places_in(spans)
            for size, align in itertools.product((1, 2, 3, 4, 5, 7), (1, 2, 4, 8)):
                self.look(places, due, size, align)

    def look(self, places, due, size, align):
        """Compares both searches with a search of all starts."""
        starts = [
            start for start in range(0, 50, align) if all(place in due for place in range(start, start + size))]
        self.assertEqual(places.first_start(size, align=align), starts[0] if starts else None)
        rows = [
            (whole, low, start) for low, whole in fewest_spans(due) for start in starts if low <= start < low + whole]
        self.assertEqual(places.best_start(size, align=align), min(rows)[2] if rows else None)

    def test_ties_and_alignment(self):
        places = Places([(0, 9), (11, 4), (20, 4), (30, 3)])
        self.assertEqual(places.best_start(4), 11)
        self.assertEqual(places.best_start(3), 30)
        self.assertEqual(places.best_start(4, align=2), 20)
        self.assertEqual(places.best_start(3, align=4), 12)
        self.assertEqual(places.best_start(5, align=4), 0)
        self.assertEqual(places.first_start(4), 0)
        self.assertEqual(places.first_start(4, align=16), 0)
        self.assertEqual(places.first_start(10), None)
        self.assertEqual(places.best_start(10), None)
        self.assertEqual(Places([(1, 9)]).first_start(4, align=4), 4)
        self.assertEqual(Places([(1, 6)]).first_start(4, align=4), None)
        self.assertEqual(Places([(1, 7)]).best_start(4, align=4), 4)

    def test_edges(self):
        whole = Places([(0, MOST)])
        self.assertEqual(whole.first_start(MOST), 0)
        self.assertEqual(whole.best_start(MOST, align=MOST_ALIGN), 0)
        late = Places([(1, MOST - 1)])
        self.assertIsNone(late.first_start(MOST))
        self.assertIsNone(late.first_start(1, align=MOST_ALIGN))
        self.assertIsNone(late.best_start(1, align=MOST_ALIGN))
        self.assertEqual(late.best_start(1, align=MOST_ALIGN // 2), MOST_ALIGN // 2)
        self.assertEqual(Places([(MOST - 1, 1)]).first_start(1), MOST - 1)
        self.assertIsNone(Places().first_start(1))
        self.assertIsNone(Places().best_start(1))

    def test_wrong(self):
        places = Places([(0, 9)])
        empty = Places()
        for call in (places.first_start, places.best_start, empty.first_start, empty.best_start):
            check_wrong(
                self, call, {"size": 2, "align": 2},
                {"size": no_integer_in(1, MOST), "align": no_align_upto(MOST_ALIGN)}, named=("align",))
        self.assertEqual(places.spans, [(0, 9)])

    def test_size(self):
        places = Places([(4 * k, 2) for k in range(20000)])
        self.assertIsNone(places.first_start(3))
        self.assertIsNone(places.best_start(3))
        self.assertEqual(sum(place in places for place in range(80000)), 40000)
        self.assertEqual(sum(places.covers((place, 2)) for place in range(20000)), 5000)


if __name__ == "__main__":
    unittest.main()
