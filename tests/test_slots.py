"""Points 26 and 32 and the interface of slots.py."""

import itertools
import unittest

from allgivenback.slots import class_align, class_of, class_order, class_sizes, slab_shape, slot_starts
from tests.helpers import HUGE, NO_INTEGERS, check_wrong, no_align_upto, no_integer_in, told_by

WIDTHS = (16, 32, 64)
NO_WIDTHS = (0, 1, 8, 15, 17, 24, 48, 128, HUGE) + NO_INTEGERS
SIZES = (1, 2, 3, 4, 6, 8, 12, 16, 24, 32)
NO_SIZES = (0, 5, 7, 9, 10, 33, 48, 64, -1, HUGE) + NO_INTEGERS


def plain_shape(width, order, size, align):
    """The shape of point 26, counted out."""
    whole = width * 2 ** order
    stride = align
    while stride < size + 1:
        stride += align
    slots = 0
    while align + (slots + 1) * stride <= whole:
        slots += 1
    if slots == 0:
        return None
    colours = 1
    while align + colours * align + slots * stride <= whole:
        colours += 1
    return (stride, slots, colours)


def plain_starts(width, order, size, align, page):
    """The starts of the slots of point 26, counted out."""
    shape = plain_shape(width, order, size, align)
    if shape is None:
        return []
    colour = page // 2 ** order % shape[2]
    return [page * width + align + colour * align + number * shape[0] for number in range(shape[1])]


def aligns_upto(most):
    """All alignments up to the given one."""
    return [2 ** k for k in range(20) if 2 ** k <= most]


class ShapeTest(unittest.TestCase):
    def test_examples(self):
        self.assertEqual(slab_shape(16, 0, 3, 2), (4, 3, 2))
        self.assertEqual(slot_starts(16, 0, 3, 2, 5), [84, 88, 92])

    def cases(self):
        """Widths, orders, sizes and alignments: small sizes, and those around which the number of slots changes."""
        for width, order in itertools.product(WIDTHS, range(9)):
            whole = width * 2 ** order
            sizes = set(range(1, 20)) | {4095, 4096} | {whole // k + n for k in (1, 2, 3) for n in range(-4, 2)}
            for size, align in itertools.product(sorted(sizes), aligns_upto(width)):
                if 1 <= size <= 4096:
                    yield width, order, size, align

    def test_shapes_counted_out(self):
        none = 0
        for case in self.cases():
            due = plain_shape(*case)
            self.assertEqual(slab_shape(*case), due, case)
            none += due is None
        self.assertGreater(none, 100)

    def test_starts_counted_out(self):
        for width, order, size, align in self.cases():
            pages = [page for page in (0, 1, 2, 3, 5, 64, 128, 248, 255) if page % 2 ** order == 0]
            for page in pages:
                starts = slot_starts(width, order, size, align, page)
                self.assertEqual(starts, plain_starts(width, order, size, align, page))
                self.apart(starts, width, order, size, align, page)

    def apart(self, starts, width, order, size, align, page):
        """Checks that a place lies before, between and behind the slots, and that they are aligned."""
        edge = page * width
        for start in starts:
            self.assertEqual(start % align, 0)
            self.assertGreater(start, edge)
            edge = start + size
        self.assertLessEqual(edge if starts else 0, page * width + width * 2 ** order - 1)

    def test_all_colours(self):
        for width, order, size, align in ((16, 0, 3, 2), (64, 0, 20, 1), (16, 2, 9, 4), (32, 0, 15, 1)):
            colours = slab_shape(width, order, size, align)[2]
            firsts = [slot_starts(width, order, size, align, page << order)[0] - (page * width << order)
                      for page in range(0, 256 >> order)]
            self.assertEqual(sorted(set(firsts)), [align + n * align for n in range(colours)])
            self.assertEqual(firsts[:colours], [align + n * align for n in range(colours)])
            self.assertEqual(firsts[colours], align)

    def test_no_slot(self):
        self.assertIsNone(slab_shape(16, 0, 15, 1))
        self.assertIsNone(slab_shape(16, 0, 1, 16))
        self.assertEqual(slot_starts(16, 0, 15, 1, 3), [])
        self.assertEqual(slab_shape(16, 0, 14, 1), (15, 1, 1))
        self.assertIsNone(slab_shape(16, 8, 4095, 1))
        self.assertEqual(slab_shape(16, 8, 4094, 1), (4095, 1, 1))
        self.assertEqual(slab_shape(64, 8, 4096, 64), plain_shape(64, 8, 4096, 64))

    def test_lists_are_new(self):
        slot_starts(16, 0, 3, 2, 5).clear()
        class_sizes(16).clear()
        self.assertEqual([slot_starts(16, 0, 3, 2, 5), class_sizes(16)], [[84, 88, 92], [1, 2, 3, 4, 6, 8]])

    def test_wrong(self):
        for width in WIDTHS:
            good = {"width": width, "order": 1, "size": 3, "align": 2}
            bad = {
                "width": NO_WIDTHS, "order": no_integer_in(0, 8), "size": no_integer_in(1, 4096),
                "align": no_align_upto(width)}
            check_wrong(self, slab_shape, good, bad)
            bad["page"] = (1, 3, 255, 257) + no_integer_in(0, 255)
            check_wrong(self, slot_starts, {**good, "page": 4}, bad)
        # Also where there is no slot, the page is looked at.
        self.assertEqual(told_by(slot_starts, 16, 1, 100, 1, 3), ("BadValue", ("page",)))
        self.assertEqual(slot_starts(16, 1, 100, 1, 4), [])
        self.assertEqual(told_by(slot_starts, 16, 8, 1, 1, 128), ("BadValue", ("page",)))
        self.assertEqual(len(slot_starts(16, 8, 1, 1, 0)), 2047)


class ClassTest(unittest.TestCase):
    def test_sizes(self):
        self.assertEqual(class_sizes(16), [1, 2, 3, 4, 6, 8])
        self.assertEqual(class_sizes(32), [1, 2, 3, 4, 6, 8, 12, 16])
        self.assertEqual(class_sizes(64), [1, 2, 3, 4, 6, 8, 12, 16, 24, 32])

    def test_aligns(self):
        self.assertEqual([class_align(size) for size in SIZES], [1, 2, 1, 4, 2, 4, 4, 4, 4, 4])

    def test_orders(self):
        for width, size in itertools.product(WIDTHS, SIZES):
            order = 0
            while (plain_shape(width, order, size, class_align(size)) or (0, 0))[1] < 2:
                order += 1
            self.assertEqual(class_order(width, size), order)
        self.assertEqual([class_order(16, size) for size in SIZES], [0, 0, 0, 1, 1, 1, 2, 2, 2, 3])

    def test_class_of(self):
        for width in WIDTHS:
            sizes = [size for size in SIZES if size <= width // 2]
            for size, align in itertools.product((*range(1, 70), 1000000000), aligns_upto(1073741824)):
                fitting = [k for k, each in enumerate(sizes) if each >= size and class_align(each) >= align]
                told = class_of(width, size, align)
                self.assertEqual(told, min(fitting) if fitting else None)
        self.assertEqual([class_of(16, 8, 4), class_of(16, 9, 1), class_of(16, 1, 8)], [5, None, None])
        self.assertEqual([class_of(16, 3, 1), class_of(16, 3, 2), class_of(16, 1, 2), class_of(16, 1, 4)], [2, 3, 1, 3])
        self.assertIsNone(class_of(64, 1, 1073741824))

    def test_wrong(self):
        check_wrong(self, class_sizes, {"width": 16}, {"width": NO_WIDTHS})
        check_wrong(self, class_align, {"size": 16}, {"size": NO_SIZES})
        check_wrong(self, class_order, {"width": 16, "size": 4}, {"width": NO_WIDTHS, "size": NO_SIZES})
        check_wrong(
            self, class_of, {"width": 16, "size": 4, "align": 4},
            {"width": NO_WIDTHS, "size": no_integer_in(1, 1000000000), "align": no_align_upto(1073741824)})


if __name__ == "__main__":
    unittest.main()
