"""Points 7 and 8 and the interface of spans.py."""

import itertools
import unittest

from allgivenback.spans import (
    align_down, align_up, blocks_of, end_of, is_power, is_span, meet, order_of, overlap, power_in)
from tests.helpers import HUGE, NO_INTEGERS, ODD_VALUES, check_wrong, no_align_upto, no_integer_in

MOST = 1000000000
NO_SPANS = (
    [0, 1], (0, 0), (-1, 1), (0, MOST + 1), (1, MOST), (MOST, 1), (0,), (0, 1, 2), (True, 1), (0, True),
    (0, False), (False, 1), (0, None), ("0", 1), (0.0, 1), (0, [1]), ((0, 1), 1), (HUGE, 1), (0, HUGE), (-HUGE, HUGE),
) + NO_INTEGERS + (0, 1)
SMALL = [(start, size) for start in range(6) for size in range(1, 6)]


class SpanTest(unittest.TestCase):
    def test_is_span(self):
        for value in ((0, 1), (0, MOST), (MOST - 1, 1), (5, 7), (1, MOST - 1)):
            self.assertIs(is_span(value), True, value)
        for value in NO_SPANS:
            self.assertIs(is_span(value), False, value)
        for value in ODD_VALUES:
            self.assertIs(is_span(value), value == (0, 1) and isinstance(value, tuple), value)

    def test_end_of(self):
        self.assertEqual(end_of((3, 4)), 7)
        self.assertEqual(end_of((0, MOST)), MOST)
        check_wrong(self, end_of, {"span": (0, 1)}, {"span": NO_SPANS})

    def test_overlap_and_meet(self):
        for first, second in itertools.product(SMALL, SMALL):
            shared = sorted(set(range(first[0], sum(first))) & set(range(second[0], sum(second))))
            self.assertIs(overlap(first, second), bool(shared), (first, second))
            due = (shared[0], len(shared)) if shared else None
            self.assertEqual(meet(first, second), due, (first, second))

    def test_meet_edges(self):
        self.assertEqual(meet((0, MOST), (MOST - 1, 1)), (MOST - 1, 1))
        self.assertIsNone(meet((0, MOST - 1), (MOST - 1, 1)))
        self.assertIs(overlap((0, MOST), (0, 1)), True)

    def test_wrong_spans(self):
        for call in (overlap, meet):
            check_wrong(
                self, call, {"first": (0, 1), "second": (0, 1)}, {"first": NO_SPANS, "second": NO_SPANS})


class AlignTest(unittest.TestCase):
    def test_is_power(self):
        powers = [1 << k for k in range(12)]
        for value in range(-5, 2050):
            self.assertIs(is_power(value), value in powers, value)
        for k in (13, 29, 30, 31, 64, 900, 3000):
            self.assertIs(is_power(2 ** k), True)
            self.assertIs(is_power(2 ** k - 1), False)
            self.assertIs(is_power(2 ** k + 1), False)
            self.assertIs(is_power(-(2 ** k)), False)
        for value in NO_INTEGERS + (HUGE, -HUGE):
            self.assertIs(is_power(value), False, value)

    def test_against_steps(self):
        for align in (1, 2, 4, 8, 16):
            for number in range(70):
                up = next(n for n in itertools.count(number) if n % align == 0)
                down = next(n for n in range(number, -1, -1) if n % align == 0)
                self.assertEqual(align_up(number, align), up)
                self.assertEqual(align_down(number, align), down)

    def test_edges(self):
        most = 1073741824
        for number, up, down in (
                (0, 0, 0), (1, most, 0), (MOST, most, 0)):
            self.assertEqual(align_up(number, most), up)
            self.assertEqual(align_down(number, most), down)
        self.assertEqual(align_up(MOST, 1), MOST)
        self.assertEqual(align_down(MOST, 1), MOST)
        self.assertEqual(align_up(MOST, 512), MOST)
        self.assertEqual(align_up(MOST - 1, 512), MOST)
        self.assertEqual(align_up(MOST, 1024), 1000000512)
        self.assertEqual(align_up(16384, 16384), 16384)
        self.assertEqual(align_up(16385, 16384), 32768)
        self.assertEqual(align_down(16383, 16384), 0)

    def test_wrong(self):
        for call in (align_up, align_down):
            check_wrong(
                self, call, {"number": 5, "align": 4},
                {"number": no_integer_in(0, MOST), "align": no_align_upto(1073741824)})

    def test_order_of(self):
        for count in range(1, 600):
            self.assertEqual(order_of(count), next(k for k in range(40) if 2 ** k >= count))
        for count, order in ((16383, 14), (16384, 14), (16385, 15), (2 ** 29, 29), (2 ** 29 + 1, 30), (MOST, 30)):
            self.assertEqual(order_of(count), order)
        check_wrong(self, order_of, {"count": 1}, {"count": no_integer_in(1, MOST)})

    def test_power_in(self):
        for number in range(1, 600):
            self.assertEqual(power_in(number), max(2 ** k for k in range(20) if number % 2 ** k == 0))
        for number, power in ((MOST, 512), (MOST - 1, 1), (2 ** 29, 2 ** 29), (3 * 2 ** 28, 2 ** 28)):
            self.assertEqual(power_in(number), power)
        check_wrong(self, power_in, {"number": 1}, {"number": no_integer_in(1, MOST)})


def plain_blocks(first, count):
    """The blocks that point 8 tells, by trying all orders at each page."""
    blocks = []
    while count:
        order = max(k for k in range(9) if first % 2 ** k == 0 and 2 ** k <= count)
        blocks.append((first, order))
        first, count = first + 2 ** order, count - 2 ** order
    return blocks


def fewest_blocks(first, end):
    """The least number of blocks of any parting of the pages from first to end."""
    least = {end: 0}
    for page in range(end - 1, first - 1, -1):
        least[page] = 1 + min(
            least[page + 2 ** k] for k in range(9) if page % 2 ** k == 0 and page + 2 ** k <= end)
    return least[first]


class BlocksTest(unittest.TestCase):
    def test_example(self):
        self.assertEqual(blocks_of(3, 6), [(3, 0), (4, 2), (8, 0)])

    def test_small_runs(self):
        for first in range(40):
            for count in range(40):
                blocks = blocks_of(first, count)
                self.assertEqual(blocks, plain_blocks(first, count))
                self.assertEqual(len(blocks), fewest_blocks(first, first + count))
                self.assertIs(type(blocks), list)

    def test_edges(self):
        self.assertEqual(blocks_of(0, 0), [])
        self.assertEqual(blocks_of(4096, 0), [])
        self.assertEqual(blocks_of(0, 1), [(0, 0)])
        self.assertEqual(blocks_of(1, 1), [(1, 0)])
        self.assertEqual(blocks_of(0, 256), [(0, 8)])
        self.assertEqual(blocks_of(0, 257), [(0, 8), (256, 0)])
        self.assertEqual(blocks_of(0, 4096), [(page, 8) for page in range(0, 4096, 256)])
        self.assertEqual(blocks_of(4096, 4096), [(page, 8) for page in range(4096, 8192, 256)])
        for first, count in ((4095, 4096), (1, 4096), (255, 258), (256, 255), (128, 384)):
            self.assertEqual(blocks_of(first, count), plain_blocks(first, count))

    def test_new_list(self):
        blocks_of(3, 6).append(None)
        self.assertEqual(blocks_of(3, 6), [(3, 0), (4, 2), (8, 0)])

    def test_wrong(self):
        check_wrong(
            self, blocks_of, {"first": 0, "count": 4},
            {"first": no_integer_in(0, 4096), "count": no_integer_in(0, 4096)})


if __name__ == "__main__":
    unittest.main()
