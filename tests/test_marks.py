"""Points 41, 42 and 44 and the interface of marks.py."""

import itertools
import random
import unittest

from allgivenback.ground import Ground, ground_of
from allgivenback.heaps import start_heap
from allgivenback.marks import first_broken_mark, is_no_piece, pieces_in, serves
from tests.bed_models import plain_broken, plain_serves
from tests.helpers import ODD_VALUES, bendings, check_wrong, no_align_upto, no_integer_in, told_by
from tests.test_images import HOLDERS, NO_IMAGES, blank


def with_place(image, place, word=None, holder=None):
    """The image with another word or holder at a place."""
    width, fill, words, holders = image
    words, holders = list(words), list(holders)
    words[place] = words[place] if word is None else word
    holders[place] = holders[place] if holder is None else holder
    return (width, fill, tuple(words), tuple(holders))


def made_heap(start=3, size=40, fill=9):
    """A ground with a heap that has used and free pieces."""
    ground = Ground(3, 16, fill=fill)
    ground.pass_on(start, size, 0, 24)
    heap = start_heap(ground, start, size)
    spans = [heap.take(count, user) for count, user in ((3, 1), (2, 2), (4, 3), (1, 4), (2, 1))]
    heap.give_back(spans[1][0], 2)
    heap.give_back(spans[3][0], 4)
    ground.write(spans[0][0], 7, 1)
    ground.pass_on(spans[2][0] + 1, 2, 3, 8)
    return ground, heap


class MarkTest(unittest.TestCase):
    def setUp(self):
        self.ground, self.heap = made_heap()
        self.image = self.ground.image()
        self.pieces = [(5, 5, True), (10, 4, False), (14, 6, True), (20, 3, False), (23, 4, True), (27, 16, False)]

    def look(self, image):
        return first_broken_mark(image, 3, 40)

    def test_sound(self):
        self.assertEqual(pieces_in(self.image, 3, 40), self.pieces)
        self.assertIsNone(self.look(self.image))
        for start, size in ((0, 5), (43, 5), (0, 48)):
            ground = Ground(3, 16)
            ground.pass_on(start, size, 0, 24)
            start_heap(ground, start, size)
            self.assertIsNone(first_broken_mark(ground.image(), start, size))
            self.assertEqual(pieces_in(ground.image(), start, size), [(start + 2, size - 2, False)])

    def test_each_step_by_itself(self):
        for place, word, holder, due in (
                (3, 41, 24, 40), (3, 40, 23, 40), (3, 40, 1, 40),
                # (a) a mark with another holder, too short, beyond the end, a free piece behind a free one
                (5, 11, 1, 0), (5, 5, 24, 0), (5, 4, 24, 0), (5, 0, 24, 0), (5, 2 * 39, 24, 0), (14, 12, 24, 0),
                (27, 34, 24, 0), (27, 35, 24, 0), (27, 65535, 24, 0),
                # (b) the last place of a piece
                (9, 10, 24, 11), (9, 11, 3, 11), (13, 9, 24, 8), (42, 33, 24, 32),
                # (c) payloads
                (11, 8, 24, 9), (12, 9, 1, 9), (41, 0, 24, 9), (6, 0, 24, 0), (8, 5, 0, 0), (16, 5, 11, 0),
                # the rover
                (4, 6, 24, 5), (4, 9, 24, 5), (4, 5, 1, 5), (4, 43, 24, 5), (4, 3, 24, 5)):
            image = with_place(self.image, place, word, holder)
            self.assertEqual(self.look(image), (place, word, due))
            self.assertEqual(told_by(pieces_in, image, 3, 40), ("Broken", (place, word, due)))

    def test_mark_with_another_number_of_places(self):
        # The mark tells three places, so the last of these is looked at.
        self.assertEqual(self.look(with_place(self.image, 5, 7)), (7, 9, 7))
        self.assertEqual(self.look(with_place(self.image, 10, 9)), (13, 8, 9))
        self.assertEqual(self.look(with_place(self.image, 27, 33)), (42, 32, 33))
        # A used piece may end where a free one began to end, if the marks fit; then a piece lacks its mark.
        image = with_place(with_place(self.image, 10, 9), 13, 9)
        self.assertEqual(self.look(image), (11, 9, 0))

    def test_order_of_the_steps(self):
        image = self.image
        for place, due in ((4, 5), (41, 9), (42, 32), (27, 0), (21, 9), (13, 8), (10, 0), (3, 40)):
            image = with_place(image, place, 2)
            self.assertEqual(self.look(image), (place, 2, due))

    def test_order_in_one_piece(self):
        image = with_place(self.image, 12, 1)
        self.assertEqual(self.look(image), (12, 1, 9))
        image = with_place(image, 11, 1)
        self.assertEqual(self.look(image), (11, 1, 9))
        image = with_place(image, 13, 1)
        self.assertEqual(self.look(image), (13, 1, 8))
        image = with_place(image, 10, holder=23)
        self.assertEqual(self.look(image), (10, 8, 0))

    def test_each_place_and_word(self):
        marks = [3] + [place for p, n, _ in self.pieces for place in (p, p + n - 1)]
        free = [place for p, n, used in self.pieces if not used for place in range(p + 1, p + n - 1)]
        for place in range(48):
            for word in list(range(0, 100)) + [32767, 32768, 65534, 65535]:
                image = with_place(self.image, place, word)
                told = self.look(image)
                self.assertEqual(told, plain_broken(image, 3, 40))
                if place in marks + free and word != self.image[2][place]:
                    self.assertIsNotNone(told)

    def test_each_place_and_holder(self):
        for place, holder in itertools.product(range(48), HOLDERS):
            image = with_place(self.image, place, holder=holder)
            self.assertEqual(self.look(image), plain_broken(image, 3, 40))

    def test_random_beds(self):
        rng = random.Random(41)
        for _ in range(3000):
            image = self.image
            for _ in range(rng.randint(1, 4)):
                place = rng.randrange(3, 43)
                image = with_place(image, place, rng.choice((0, 6, 7, 8, 9, 10, 11, 12, 5, 14, 27, 40)),
                                   rng.choice((24, 24, 24, 1, 25)))
            self.assertEqual(self.look(image), plain_broken(image, 3, 40))
        for _ in range(300):
            words = tuple(rng.choice((0, 2, 6, 7, 9, 13)) for _ in range(16))
            image = (16, 0, words, tuple(rng.choice((24, 24, 24, 1)) for _ in range(16)))
            size = rng.randint(5, 16)
            start = rng.randint(0, 16 - size)
            self.assertEqual(first_broken_mark(image, start, size), plain_broken(image, start, size))

    def test_rover_may_be_any_first_place(self):
        for p, _, _ in self.pieces:
            self.assertIsNone(self.look(with_place(self.image, 4, p)))

    def test_other_beds(self):
        # A bed handed in with another start or size is judged by what stands there.
        for start, size in ((3, 39), (3, 41), (2, 40), (5, 38), (0, 48), (43, 5)):
            self.assertEqual(first_broken_mark(self.image, start, size), plain_broken(self.image, start, size))

    def test_wrong(self):
        for call in (first_broken_mark, pieces_in):
            check_wrong(self, call, {"image": self.image, "start": 3, "size": 40}, {
                "image": NO_IMAGES, "start": no_integer_in(0, 47), "size": no_integer_in(5, 45)})
            for start in (44, 47):
                self.assertEqual(told_by(call, self.image, start, 5), ("BadValue", ("size",)))
            self.assertEqual(told_by(call, blank(), 0, 17), ("BadValue", ("size",)))

    def test_greatest_bed(self):
        ground = Ground(256, 64)
        ground.pass_on(0, 16384, 0, 24)
        start_heap(ground, 0, 16384)
        image = ground.image()
        self.assertEqual(pieces_in(image, 0, 16384), [(2, 16382, False)])
        self.assertEqual(first_broken_mark(with_place(image, 16382, 1), 0, 16384), (16382, 1, 0))
        words = (16384, 2) + (7, 0, 7) * 5460 + (5, 0)
        holders = (24, 24) + (24, 1, 24) * 5460 + (24, 24)
        self.assertEqual(first_broken_mark((64, 0, words, holders), 0, 16384), (16382, 5, 0))


class ServesTest(unittest.TestCase):
    def test_against_the_points(self):
        for p, n, size, align in itertools.product(range(0, 20), range(3, 30), range(1, 28), (1, 2, 4, 8, 16)):
            self.assertEqual(serves(p, n, size, align), plain_serves(p, n, size, align))

    def test_edges(self):
        self.assertEqual(serves(0, 16384, 16382, 1), 1)
        self.assertIsNone(serves(0, 16384, 16383, 1))
        self.assertIsNone(serves(0, 16384, 16384, 1))
        self.assertEqual(serves(16383, 3, 1, 4096), 16384)
        self.assertEqual(serves(0, 16384, 5, 4096), 4096)
        self.assertEqual([serves(4095, 7, 5, 4096), serves(4094, 7, 5, 4096)], [4096, None])
        # Before the used piece lie no places, or at least three.
        self.assertEqual([serves(p, 30, 1, 8) for p in range(3, 9)], [8, 8, 16, 16, 8, 16])

    def test_wrong(self):
        check_wrong(self, serves, {"p": 1, "n": 3, "size": 1, "align": 1}, {
            "p": no_integer_in(0, 16383), "n": no_integer_in(3, 16384), "size": no_integer_in(1, 16384),
            "align": no_align_upto(4096)})


class PaperTest(unittest.TestCase):
    def setUp(self):
        self.ground, self.heap = made_heap()
        self.image = self.ground.image()
        self.paper = ("heap", ((10, 4), (20, 3), (27, 16)))

    def test_bent_papers(self):
        self.assertIs(is_no_piece(self.image, 3, 40, self.paper, 15), True)
        bent = bendings(self.paper)
        self.assertGreater(len(bent), 80)
        for paper in bent:
            self.assertIs(is_no_piece(self.image, 3, 40, paper, 15), False, paper)

    def test_wanted(self):
        for wanted, align in itertools.product((1, 2, 3, 13, 14, 15, 16, 16384), (1, 2, 4, 8, 16, 32, 4096)):
            due = all(plain_serves(p, n, wanted, align) is None for p, n in self.paper[1])
            self.assertIs(is_no_piece(self.image, 3, 40, self.paper, wanted, align=align), due)
        self.assertEqual(told_by(self.heap.take, 15, 1), ("NoRoom", (self.paper,)))

    def test_broken_bed(self):
        for place in (3, 4, 5, 11, 42):
            image = with_place(self.image, place, 1)
            self.assertIs(is_no_piece(image, 3, 40, self.paper, 15), False)
        self.assertIs(is_no_piece(with_place(self.image, 4, 27), 3, 40, self.paper, 15), True)
        self.assertIs(is_no_piece(with_place(self.image, 6, 100), 3, 40, self.paper, 15), True)

    def test_full_heap(self):
        ground = Ground(1, 16)
        ground.pass_on(0, 5, 0, 24)
        heap = start_heap(ground, 0, 5)
        self.assertIs(is_no_piece(ground.image(), 0, 5, ("heap", ((2, 3),)), 2), True)
        self.assertIs(is_no_piece(ground.image(), 0, 5, ("heap", ((2, 3),)), 1), False)
        heap.take(1, 1)
        self.assertIs(is_no_piece(ground.image(), 0, 5, ("heap", ()), 1), True)
        self.assertIs(is_no_piece(ground_of(ground.image()).image(), 0, 5, ("heap", ((2, 3),)), 2), False)

    def test_any_value(self):
        for value in ODD_VALUES + (("heap",), ("heap", None), ["heap", ()], ("heap", (), ())):
            self.assertIs(is_no_piece(self.image, 3, 40, value, 15), False)

    def test_wrong(self):
        for paper in (self.paper, None):
            check_wrong(
                self, is_no_piece,
                {"image": self.image, "start": 3, "size": 40, "paper": paper, "wanted": 1, "align": 1},
                {"image": NO_IMAGES, "start": no_integer_in(0, 47), "size": no_integer_in(5, 45),
                 "wanted": no_integer_in(1, 16384), "align": no_align_upto(4096)}, named=("align",))


if __name__ == "__main__":
    unittest.main()
