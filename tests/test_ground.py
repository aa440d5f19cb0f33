"""Points 12 to 18 and the interface of ground.py."""

import itertools
import random
import unittest

from allgivenback.basics import Cut, StoreError
from allgivenback.ground import Ground, ground_of
from allgivenback.images import is_image
from allgivenback.places import Places
from tests.helpers import HUGE, NO_INTEGERS, check_wrong, no_integer_in, state, told_by
from tests.test_images import HOLDERS, NO_HOLDERS, NO_IMAGES, NO_WORDS, blank

NO_BUDGETS = tuple(value for value in no_integer_in(0, 1000000000) if value is not None)
NO_OWNERS = (0,) + NO_HOLDERS


class PlainGround:
    """A slow ground: each deed keeps a whole copy."""

    def __init__(self, top, fill, budget):
        self.fill, self.budget, self.spent = fill, budget, 0
        self.words, self.holders = [fill] * top, [0] * top
        self.copies = []

    def begin(self):
        self.copies.append((list(self.words), list(self.holders)))
        return len(self.copies)

    def cancel(self):
        if not self.copies:
            return ("Unknown", ("deed",))
        self.words, self.holders = self.copies.pop()
        return None

    def commit(self):
        if not self.copies:
            return ("Unknown", ("deed",))
        before = zip(*self.copies[-1])
        cost = sum(old != new for old, new in zip(before, zip(self.words, self.holders)))
        if len(self.copies) == 1:
            if self.budget is not None and self.budget < cost:
                self.cancel()
                return ("Cut", (cost, self.budget))
            self.spent += cost
            self.budget = None if self.budget is None else self.budget - cost
        self.copies.pop()
        return cost

    def do(self, change):
        """Makes a change as a deed of its own."""
        self.begin()
        told = change()
        if told is not None:
            self.cancel()
            return told
        told = self.commit()
        return told if isinstance(told, tuple) else None

    def write(self, place, word, holder):
        def change():
            if self.holders[place] != holder:
                return ("NotHeld", (place, self.holders[place]))
            self.words[place] = word
        return self.do(change)

    def poke(self, place, word):
        def change():
            self.words[place] = word
        return self.do(change)

    def pass_on(self, start, size, giver, taker):
        def change():
            span = range(start, start + size)
            for place in span:
                if giver == 0 and self.holders[place] == 0 and self.words[place] != self.fill:
                    return ("Broken", (place, self.words[place], self.fill))
            for place in span:
                if self.holders[place] != giver:
                    return ("NotHeld", (place, self.holders[place]))
            for place in span:
                self.holders[place] = taker
                self.words[place] = self.fill if taker == 0 else self.words[place]
        return self.do(change)


class MakingTest(unittest.TestCase):
    def test_at_the_start(self):
        for pages, width, fill, budget in itertools.product(
                (1, 2, 256), (16, 32, 64), (0, 7, 65535), (None, 0, 1000000000)):
            ground = Ground(pages, width, fill=fill, budget=budget)
            self.assertEqual([ground.pages, ground.width, ground.fill], [pages, width, fill])
            self.assertEqual([ground.top, ground.spent, ground.depth], [pages * width, 0, 0])
            self.assertEqual(ground.budget, budget)
            self.assertEqual(ground.image(), blank(pages, width, fill))
            self.assertEqual(ground.word_at(ground.top - 1), fill)
            self.assertEqual(ground.holder_at(ground.top - 1), 0)

    def test_left_out(self):
        ground = Ground(1, 16)
        self.assertEqual([ground.fill, ground.budget], [0, None])

    def test_wrong(self):
        check_wrong(
            self, Ground, {"pages": 2, "width": 16, "fill": 0, "budget": 5},
            {"pages": no_integer_in(1, 256), "width": (0, 1, 15, 17, 24, 48, 128, HUGE) + NO_INTEGERS,
             "fill": NO_WORDS, "budget": NO_BUDGETS},
            named=("fill", "budget"))

    def test_example(self):
        ground = Ground(2, 16, fill=5)
        ground.pass_on(3, 2, 0, 1)
        ground.write(4, 9, 1)
        self.assertEqual([ground.spent, ground.read(4, 1), ground.held_by(1).spans], [3, 9, [(3, 2)]])


class GuardTest(unittest.TestCase):
    def setUp(self):
        self.ground = Ground(2, 16, fill=5)
        self.ground.pass_on(3, 4, 0, 1)
        self.ground.pass_on(7, 1, 0, 28)

    def test_looks(self):
        self.assertEqual([self.ground.holder_at(place) for place in range(9)], [0, 0, 0, 1, 1, 1, 1, 28, 0])
        self.ground.poke(0, 65535)
        self.assertEqual([self.ground.word_at(0), self.ground.word_at(31)], [65535, 5])

    def test_read_and_write(self):
        self.assertIsNone(self.ground.write(3, 0, 1))
        self.assertIsNone(self.ground.write(7, 65535, 28))
        self.assertEqual([self.ground.read(3, 1), self.ground.read(7, 28)], [0, 65535])
        self.assertEqual(self.ground.held_by(1).spans, [(3, 4)])

    def test_not_held(self):
        before = state(self.ground)
        for place, found in ((2, 0), (3, 1), (7, 28), (31, 0)):
            self.assertEqual(told_by(self.ground.read, place, 2), ("NotHeld", (place, found)))
            self.assertEqual(told_by(self.ground.write, place, 9, 2), ("NotHeld", (place, found)))
            self.assertEqual(told_by(self.ground.write, place, 5, 2), ("NotHeld", (place, found)))
        self.assertEqual(state(self.ground), before)

    def test_wrong(self):
        before = state(self.ground)
        no_places = no_integer_in(0, 31)
        check_wrong(self, self.ground.word_at, {"place": 3}, {"place": no_places})
        check_wrong(self, self.ground.holder_at, {"place": 3}, {"place": no_places})
        check_wrong(self, self.ground.poke, {"place": 3, "word": 5}, {"place": no_places, "word": NO_WORDS})
        for good in (1, 2):
            check_wrong(
                self, self.ground.read, {"place": 3, "holder": good}, {"place": no_places, "holder": NO_OWNERS})
            check_wrong(
                self, self.ground.write, {"place": 3, "word": 5, "holder": good},
                {"place": no_places, "word": NO_WORDS, "holder": NO_OWNERS})
        check_wrong(self, self.ground.held_by, {"holder": 0}, {"holder": NO_HOLDERS})
        self.assertEqual(state(self.ground), before)

    def test_write_row(self):
        self.ground.write_row(3, (7, 8, 9), 1)
        self.assertEqual(self.ground.image()[2][2:8], (5, 7, 8, 9, 5, 5))
        before = state(self.ground)
        self.assertEqual(told_by(self.ground.write_row, 5, (1, 2, 3), 1), ("NotHeld", (7, 28)))
        self.ground.budget = 1
        self.assertEqual(told_by(self.ground.write_row, 3, (1, 2), 1), ("Cut", (2, 1)))
        self.ground.budget = None
        self.assertEqual(state(self.ground), before)

    def test_poke(self):
        for place in (0, 3, 7):
            holder = self.ground.holder_at(place)
            self.assertIsNone(self.ground.poke(place, 77))
            self.assertEqual([self.ground.word_at(place), self.ground.holder_at(place)], [77, holder])

    def test_held_by(self):
        self.assertEqual(self.ground.held_by(0).spans, [(0, 3), (8, 24)])
        self.assertEqual(self.ground.held_by(28), Places([(7, 1)]))
        self.assertIs(type(self.ground.held_by(2)), Places)
        self.assertEqual(self.ground.held_by(2).spans, [])
        whole = Ground(256, 64)
        for place in range(0, whole.top, 128):
            whole.pass_on(place, 1, 0, 8)
        self.assertEqual(whole.held_by(8).spans, [(place, 1) for place in range(0, 16384, 128)])
        for holder in HOLDERS:
            self.assertEqual(whole.held_by(holder).total, {0: 16384 - 128, 8: 128}.get(holder, 0))


class PassOnTest(unittest.TestCase):
    def test_wrong(self):
        ground = Ground(2, 16)
        before = state(ground)
        bad = {
            "start": no_integer_in(0, 31), "size": no_integer_in(1, 29), "giver": NO_HOLDERS, "taker": NO_HOLDERS}
        for giver in (0, 1):
            check_wrong(self, ground.pass_on, {"start": 3, "size": 4, "giver": giver, "taker": 1}, bad)
        self.assertEqual(told_by(ground.pass_on, 31, 2, 0, 1), ("BadValue", ("size",)))
        self.assertEqual(told_by(ground.pass_on, 0, 33, 0, 1), ("BadValue", ("size",)))
        self.assertEqual(state(ground), before)
        self.assertIsNone(ground.pass_on(31, 1, 0, 1))
        self.assertIsNone(Ground(2, 16).pass_on(0, 32, 0, 1))

    def test_words(self):
        ground = Ground(1, 16, fill=5)
        ground.pass_on(2, 5, 0, 1)
        for place in range(2, 7):
            ground.write(place, 100 + place, 1)
        ground.pass_on(3, 2, 1, 23)
        self.assertEqual(ground.image()[2][:8], (5, 5, 102, 103, 104, 105, 106, 5))
        self.assertEqual(ground.image()[3][:8], (0, 0, 1, 23, 23, 1, 1, 0))
        ground.pass_on(2, 1, 1, 0)
        ground.pass_on(3, 2, 23, 0)
        self.assertEqual(ground.image()[2][:8], (5, 5, 5, 5, 5, 105, 106, 5))
        self.assertEqual(ground.image()[3][:8], (0, 0, 0, 0, 0, 1, 1, 0))
        before = ground.image()
        ground.pass_on(5, 2, 1, 1)
        self.assertEqual(ground.image(), before)

    def test_broken_before_not_held(self):
        ground = Ground(1, 16, fill=5)
        ground.pass_on(4, 2, 0, 3)
        ground.write(4, 9, 3)
        self.assertEqual(told_by(ground.pass_on, 0, 16, 0, 1), ("NotHeld", (4, 3)))
        ground.poke(10, 6)
        ground.poke(12, 7)
        before = state(ground)
        for taker in (0, 1, 3):
            self.assertEqual(told_by(ground.pass_on, 0, 16, 0, taker), ("Broken", (10, 6, 5)))
            self.assertEqual(told_by(ground.pass_on, 0, 16, 3, taker), ("NotHeld", (0, 0)))
            self.assertEqual(told_by(ground.pass_on, 4, 9, 3, taker), ("NotHeld", (6, 0)))
            self.assertEqual(told_by(ground.pass_on, 11, 2, 0, taker), ("Broken", (12, 7, 5)))
            self.assertEqual(told_by(ground.pass_on, 5, 5, 0, taker), ("NotHeld", (5, 3)))
        self.assertEqual(state(ground), before)

    def test_from_nobody_to_nobody(self):
        ground = Ground(1, 16, fill=5)
        self.assertIsNone(ground.pass_on(0, 16, 0, 0))
        self.assertEqual(ground.image(), blank(1, 16, 5))
        self.assertEqual(ground.spent, 0)


class DeedTest(unittest.TestCase):
    def test_depth_and_cost(self):
        ground = Ground(2, 16)
        self.assertEqual(ground.begin(), 1)
        ground.pass_on(0, 3, 0, 1)
        self.assertEqual([ground.begin(), ground.depth], [2, 2])
        ground.write(0, 7, 1)
        ground.pass_on(3, 1, 0, 2)
        self.assertEqual([ground.spent, ground.word_at(0)], [0, 7])
        self.assertEqual([ground.commit(), ground.depth, ground.spent], [2, 1, 0])
        self.assertEqual([ground.commit(), ground.depth, ground.spent], [4, 0, 4])

    def test_put_back_places_cost_nothing(self):
        ground = Ground(1, 16)
        ground.pass_on(0, 4, 0, 1)
        ground.begin()
        for place in range(4):
            ground.write(place, 9, 1)
        ground.begin()
        for place in range(3):
            ground.write(place, 0, 1)
        self.assertEqual(ground.commit(), 3)
        self.assertEqual(ground.commit(), 1)
        self.assertEqual(ground.spent, 5)
        ground.begin()
        ground.pass_on(0, 4, 1, 2)
        ground.pass_on(0, 4, 2, 1)
        self.assertEqual([ground.commit(), ground.spent], [0, 5])
        ground.write(0, 0, 1)
        ground.pass_on(0, 4, 1, 1)
        self.assertEqual(ground.spent, 5)

    def test_cancel_takes_back_committed_inner_deeds(self):
        ground = Ground(1, 16, fill=3)
        ground.pass_on(0, 2, 0, 1)
        before = ground.image()
        ground.begin()
        ground.write(0, 1, 1)
        between = ground.image()
        ground.begin()
        ground.begin()
        ground.write(0, 2, 1)
        ground.poke(9, 9)
        ground.commit()
        ground.pass_on(4, 4, 0, 8)
        self.assertIsNone(ground.cancel())
        self.assertEqual([ground.image(), ground.depth], [between, 1])
        ground.begin()
        ground.write(1, 4, 1)
        ground.commit()
        ground.cancel()
        self.assertEqual([ground.image(), ground.depth, ground.spent], [before, 0, 2])

    def test_no_deed(self):
        ground = Ground(1, 16)
        for _ in range(2):
            self.assertEqual(told_by(ground.commit), ("Unknown", ("deed",)))
            self.assertEqual(told_by(ground.cancel), ("Unknown", ("deed",)))
        ground.begin()
        self.assertEqual(ground.commit(), 0)
        self.assertEqual(told_by(ground.commit), ("Unknown", ("deed",)))

    def test_methods_are_deeds_of_their_own(self):
        ground = Ground(1, 16)
        ground.begin()
        ground.pass_on(0, 4, 0, 1)
        inside = state(ground)
        for call in (
                lambda: ground.write(5, 1, 1), lambda: ground.pass_on(0, 6, 1, 2), lambda: ground.poke(99, 1),
                lambda: ground.pass_on(0, 4, 0, 2)):
            with self.assertRaises(StoreError):
                call()
            self.assertEqual(state(ground), inside)
        self.assertEqual(ground.commit(), 4)

    def test_sixty_deeds_inside_one_another(self):
        ground = Ground(256, 64)
        for depth in range(1, 61):
            self.assertEqual(ground.begin(), depth)
            ground.pass_on(depth, 1, 0, 1)
        for depth in range(60, 1, -1):
            self.assertEqual(ground.commit(), 61 - depth)
        ground.cancel()
        self.assertEqual(ground.image(), blank(256, 64))

    def test_forty_one_deeds_on_the_greatest_ground(self):
        ground = Ground(256, 64, budget=1000000000)
        for depth in range(41):
            ground.begin()
            ground.pass_on(0, ground.top, depth % 8 + 1 if depth else 0, (depth + 1) % 8 + 1)
        for depth in range(40, 0, -1):
            # At the end user 2 holds everything, as at the begin of every eighth deed.
            self.assertEqual(ground.commit(), 0 if depth % 8 == 1 else 16384)
        self.assertEqual([ground.commit(), ground.spent, ground.budget], [16384, 16384, 1000000000 - 16384])


class BudgetTest(unittest.TestCase):
    def test_setter(self):
        ground = Ground(1, 16)
        for value in (0, 1, 1000000000, None, 7):
            ground.budget = value
            self.assertEqual(ground.budget, value)
        before = state(ground)
        for value in NO_BUDGETS:
            with self.assertRaises(StoreError) as caught:
                ground.budget = value
            self.assertEqual(caught.exception.told, ("BadValue", ("budget",)))
            self.assertEqual(state(ground), before)

    def test_charged_and_cut(self):
        ground = Ground(1, 16, budget=5)
        ground.pass_on(0, 5, 0, 1)
        self.assertEqual([ground.budget, ground.spent], [0, 5])
        before = state(ground)
        self.assertEqual(told_by(ground.write, 0, 1, 1), ("Cut", (1, 0)))
        self.assertEqual(told_by(ground.poke, 0, 1), ("Cut", (1, 0)))
        self.assertEqual(told_by(ground.pass_on, 0, 3, 1, 2), ("Cut", (3, 0)))
        self.assertEqual(state(ground), before)
        self.assertIsNone(ground.write(0, 0, 1))
        self.assertIsNone(ground.pass_on(0, 5, 1, 1))
        ground.budget = 2
        self.assertEqual(told_by(ground.pass_on, 0, 3, 1, 2), ("Cut", (3, 2)))
        self.assertEqual([ground.budget, ground.spent], [2, 5])
        ground.budget = 3
        self.assertIsNone(ground.pass_on(0, 3, 1, 2))
        self.assertEqual([ground.budget, ground.spent], [0, 8])

    def test_commit_is_cut(self):
        ground = Ground(1, 16, budget=3)
        before = ground.image()
        ground.begin()
        ground.begin()
        ground.pass_on(0, 4, 0, 1)
        self.assertEqual([ground.commit(), ground.budget, ground.spent], [4, 3, 0])
        with self.assertRaises(Cut) as caught:
            ground.commit()
        self.assertEqual([caught.exception.needed, caught.exception.left], [4, 3])
        self.assertEqual([ground.depth, ground.budget, ground.spent, ground.image()], [0, 3, 0, before])

    def test_value_at_the_end_counts(self):
        ground = Ground(1, 16, budget=0)
        ground.begin()
        ground.pass_on(0, 4, 0, 1)
        ground.budget = 4
        self.assertEqual([ground.commit(), ground.budget, ground.spent], [4, 0, 4])
        ground.budget = None
        ground.begin()
        ground.pass_on(0, 4, 1, 2)
        ground.budget = 3
        self.assertEqual(told_by(ground.commit), ("Cut", (4, 3)))
        self.assertEqual([ground.budget, ground.spent, ground.depth], [3, 4, 0])

    def test_cancel_leaves_budget_and_spent(self):
        ground = Ground(1, 16, budget=9)
        ground.begin()
        ground.pass_on(0, 4, 0, 1)
        ground.budget = 6
        ground.cancel()
        self.assertEqual([ground.budget, ground.spent], [6, 0])


class RandomTest(unittest.TestCase):
    def test_against_a_plain_ground(self):
        for seed in range(60):
            rng = random.Random(seed)
            fill, budget = rng.choice((0, 5, 65535)), rng.choice((None, 0, 6, 60))
            ground, plain = Ground(1, 16, fill=fill, budget=budget), PlainGround(16, fill, budget)
            for _ in range(120):
                self.step(rng, ground, plain)

    def step(self, rng, ground, plain):
        """Does one thing to both grounds."""
        start = rng.randrange(16)
        word = rng.choice((plain.fill, 1, 2))
        giver, taker = rng.choice((0, plain.holders[start])), rng.choice((0, 1, 2, 28))
        name, values = rng.choice((
            ("write", (start, word, plain.holders[start] or 1)), ("write", (start, word, 1)),
            ("poke", (start, word)), ("pass_on", (start, rng.randint(1, min(5, 16 - start)), giver, taker)),
            ("pass_on", (start, 1, plain.holders[start], taker)), ("begin", ()), ("commit", ()), ("cancel", ())))
        try:
            told = getattr(ground, name)(*values)
        except StoreError as error:
            told = error.told
        self.assertEqual(told, getattr(plain, name)(*values), (name, values))
        self.assertEqual(ground.image(), (16, plain.fill, tuple(plain.words), tuple(plain.holders)))
        self.assertEqual([ground.spent, ground.budget], [plain.spent, plain.budget])
        self.assertEqual(ground.depth, len(plain.copies))
        if rng.random() < 0.1:
            ground.budget = plain.budget = rng.choice((None, 0, 3, 8))


class ImageTest(unittest.TestCase):
    def test_images_are_images(self):
        ground = Ground(2, 32, fill=9)
        ground.pass_on(1, 2, 0, 17)
        self.assertIs(is_image(ground.image()), True)
        self.assertEqual(ground.image()[:2], (32, 9))

    def test_ground_of(self):
        ground = Ground(2, 16, fill=9, budget=50)
        ground.pass_on(1, 2, 0, 17)
        ground.begin()
        ground.poke(30, 1)
        made = ground_of(ground.image())
        self.assertIs(type(made), Ground)
        self.assertEqual(state(made), (ground.image(), 0, None, 0, 2, 16, 9))
        made.poke(0, 4)
        self.assertEqual(ground.word_at(0), 9)
        ground.cancel()
        self.assertEqual(made.word_at(30), 1)

    def test_ground_of_acts_as_the_ground(self):
        ground = Ground(2, 16, fill=9)
        ground.pass_on(1, 2, 0, 17)
        ground.poke(8, 1)
        made = ground_of(ground.image())
        for one in (ground, made):
            self.assertEqual(told_by(one.pass_on, 4, 9, 0, 1), ("Broken", (8, 1, 9)))
            one.pass_on(2, 1, 17, 0)
            one.write(1, 5, 17)
        self.assertEqual(ground.image(), made.image())
        self.assertEqual([made.spent, ground.spent], [2, 5])

    def test_edges_and_wrong(self):
        for image in (blank(1), blank(256, 64, 65535), blank(1, 64), blank(256, 16)):
            self.assertEqual(ground_of(image).image(), image)
        check_wrong(self, ground_of, {"image": blank()}, {"image": NO_IMAGES})


if __name__ == "__main__":
    unittest.main()
