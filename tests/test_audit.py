"""Points 69 to 72 and the interface of audit.py."""

import random
import time
import unittest

from allgivenback.audit import account, audit, first_broken_map, first_broken_word, spaces_in
from allgivenback.buddies import Buddies, start_buddies
from allgivenback.ground import Ground, ground_of
from allgivenback.layout import has_map
from allgivenback.sessions import Session
from allgivenback.store import Store
from tests.audit_models import PlainAudit
from tests.helpers import check_wrong, no_integer_in, outcome, told_by
from tests.test_images import NO_IMAGES, blank, random_image
from tests.test_layout import NO_MAPS
from tests.test_marks import with_place

ORDERS = ("arena", "heap", "pages")


def made_store(count=56, width=16, fill=5, zones=((30, 0, 0), (8, 1, 1)), seed=1, **named):
    """A store in which all parts are used, over a ground with pages in no zone; and a session over it."""
    named = {"arena": 1, "heap": 1, "pages": 6, "slow": 1, "zone": 2 if len(zones) > 1 else 1, **named}
    ground = Ground(count, width, fill=fill)
    store = Store(start_buddies(ground, zones), **named)
    session = Session(store)
    half = width // 2
    for user, name, size, align in (
            (1, "a", 3, 1), (2, "b", 3, 1), (3, "c", half, 1), (1, "d", half, 8), (2, "e", half, 8), (1, "f", width, 1),
            (4, "g", 2 * width, 1), (5, "h", 2 * width, 1), (6, "i", width, 1), (7, "j", 1, 1)):
        session.do(("take", user, name, size, align))
    for name in "bei":
        session.do(("free", {"b": 2, "e": 2, "i": 6}[name], name))
    session.run([
        ("map", 1, "m", 3), ("store", 1, "m", 1, 9), ("store", 1, "m", width + 1, 8), ("share", 1, "m", 8),
        ("store", 8, "m", 2, 7), ("out", 1, "m"), ("load", 8, "m", 0), ("protect", 8, "m", 1), ("put", 1, "a", 0, 77)])
    return ground, store, {key: named[key] for key in ORDERS}


class Base(unittest.TestCase):
    def check(self, image, named, plain=None):
        """Compares the audit of an image with the plain one."""
        plain = plain or PlainAudit(image, **named)
        if not plain.asked():
            return None
        due = plain.first_broken_word()
        self.assertEqual(first_broken_word(image, **named), due)
        self.assertEqual(first_broken_map(image), plain.first_broken_map())
        told = outcome(audit, image, **named)
        self.assertEqual(told, plain.listed() if due is None else ("Broken", due))
        return due

    def changed(self, image, place, word=None, holder=None):
        """The image with a change at one place, and True if it still has a map."""
        after = with_place(image, place, word, holder)
        is_map = has_map(after)
        if not is_map:
            for call in (first_broken_map, first_broken_word, audit, spaces_in):
                self.assertEqual(told_by(call, after), ("BadValue", ("image",)))
        return after, is_map


class SoundTest(Base):
    def test_all_parts(self):
        for width, fill, named in (
                (16, 5, {}), (32, 0, {}), (64, 60001, {"arena": 0}), (16, 60002, {"lot": 3})):
            ground, store, orders = made_store(width=width, fill=fill, **named)
            image = ground.image()
            self.assertIsNone(self.check(image, orders))
            self.assertEqual(audit(image, **orders), store.handed())
            self.assertEqual({row[3] for row in store.handed()}, {"slot", "extent", "piece"})
            rows = [
                (user, page) + row for user in range(1, 9) for page, row in enumerate(store.spaces.table(user)) if row[0]]
            self.assertEqual(spaces_in(image, pages=orders["pages"]), rows)
            self.assertEqual({row[2] for row in rows}, {2, 3, 4})
            self.assertEqual(first_broken_map(image), None)

    def test_new_map(self):
        ground = Ground(40, 16, fill=9)
        buddies = start_buddies(ground, [(10, 0, 0), (8, 2, 1)])
        image = ground.image()
        self.assertEqual([first_broken_map(image), first_broken_word(image), audit(image), spaces_in(image)], [
            None, None, [], []])
        self.assertEqual(account(image), [(0, 640 - image[3].count(21)), (21, image[3].count(21))])
        # Blocks with labels that a store does not use are not looked at.
        for label in (1, 99, 110, 199, 201, 299, 301, 400, 411, 999):
            start, size = buddies.take(0, label, 5)
            ground.poke(start, 3)
        self.assertIsNone(first_broken_word(ground.image()))
        self.assertEqual(audit(ground.image()), [])

    def test_defaults(self):
        ground = Ground(60, 16, fill=9)
        store = Store(start_buddies(ground, [(40, 0, 0)]))
        store.take(3, 1)
        store.take(16, 1)
        store.take(100, 1)
        store.spaces.reserve(1, 8)
        image = ground.image()
        self.assertEqual(audit(image), store.handed())
        self.assertEqual(audit(image, arena=3, heap=2, pages=8), store.handed())
        self.assertIsNone(first_broken_word(image))
        self.assertEqual(spaces_in(image), [(1, page, 1, 0, 0) for page in range(8)])

    def test_random_stores(self):
        for seed in range(12):
            rng = random.Random(seed)
            ground = Ground(60, rng.choice((16, 32)), fill=rng.choice((0, 9)))
            named = {"arena": rng.choice((0, 1, 2)), "heap": rng.choice((1, 2)), "pages": rng.choice((1, 5, 8))}
            store = Store(start_buddies(ground, ((24, 0, 0), (10, 0, 0))), slow=2, **named)
            session = Session(store)
            for _ in range(60):
                user, name = rng.randint(1, 3), rng.choice("abcd")
                session.do(rng.choice((
                    ("take", user, name, rng.choice((1, 3, 8, 9, 16, 20, 40)), rng.choice((1, 1, 8))),
                    ("free", user, name), ("resize", user, name, rng.choice((2, 12, 30))), ("map", user, name, 1),
                    ("store", user, name, 0, 5), ("share", user, name, user % 3 + 1), ("out", user, name),
                    ("unmap", user, name), ("tick",))))
                if rng.random() < 0.2:
                    self.assertIsNone(self.check(ground.image(), named))
                    self.assertEqual(audit(ground.image(), **named), store.handed())

    def test_parts_passed_on(self):
        ground, store, orders = made_store()
        for start, size, holder, _ in store.handed():
            if size > 1:
                ground.pass_on(start + size - 1, 1, holder, 8)
        self.assertIsNone(self.check(ground.image(), orders))
        self.assertEqual(audit(ground.image(), **orders), store.handed())

    def test_extents_over_two_arenas(self):
        ground = Ground(60, 16)
        store = Store(start_buddies(ground, [(40, 0, 0)]), arena=1)
        spans = [store.take(32, 1) for _ in range(3)]
        spans = sorted(spans)
        self.assertEqual(store.extents.join_next(spans[0][0], 1), (spans[0][0], 64))
        parts = store.extents.split_at(spans[0][0], 1, 3)
        self.assertEqual(parts[0][1], 48)
        image = ground.image()
        self.assertIsNone(self.check(image, {"arena": 1}))
        self.assertEqual(audit(image, arena=1), store.handed())
        # The note of an extent that reaches into the arena behind it is damaged.
        place = 2 + 4 + 4 * (spans[0][0] // 16) + 2
        for word in (0, 1, 2, 4, 5, 6, 7, 8, 65535):
            self.check(with_place(image, place, word), {"arena": 1})


class BrokenTest(Base):
    def test_each_word_and_each_holder(self):
        kinds = {}
        for width, fill, named in ((16, 5, {}), (16, 0, {"heap": 2, "arena": 2})):
            ground, _, orders = made_store(width=width, fill=fill, **named)
            image = ground.image()
            rng = random.Random(width)
            for place in range(ground.top):
                word, holder = image[2][place], image[3][place]
                words = {word ^ 1, 0, rng.choice((4, 21, 22, 60001, 60002, rng.randrange(65536)))} - {word}
                others = {0, rng.choice((1, 8, 11, 18, 22, 23, 24, 27))} - {holder}
                for each in sorted(words):
                    after, is_map = self.changed(image, place, word=each)
                    if is_map:
                        told = self.check(after, orders)
                        key = (holder, told is not None)
                        kinds[key] = kinds.get(key, 0) + 1
                for each in sorted(others):
                    after, is_map = self.changed(image, place, holder=each)
                    if is_map:
                        told = self.check(after, orders)
                        key = ("holder", holder, told is not None)
                        kinds[key] = kinds.get(key, 0) + 1
        for key in ((0, True), (1, False), (21, True), (22, True), (23, True), (24, True), (27, True), (27, False),
                    ("holder", 0, True), ("holder", 24, True), ("holder", 1, True), ("holder", 22, False)):
            self.assertGreater(kinds.get(key, 0), 3, (key, kinds))

    def test_map_rows(self):
        # Each word of each map row, with all codes and some labels and notes.
        ground, _, orders = made_store()
        image = ground.image()
        rng = random.Random(5)
        base = 2 + 8
        for page in range(56):
            for k in range(4):
                for word in list(range(0, 32, 1 if k == 0 else 7)) + [100, 102, 200, 300, 401, 405, 410, 999, 1000, 65535]:
                    if word == image[2][base + 4 * page + k] or (k and rng.random() < 0.5):
                        continue
                    after = with_place(image, base + 4 * page + k, word)
                    self.assertEqual(first_broken_map(after), PlainAudit(after).first_broken_map())
                    if rng.random() < 0.25:
                        self.check(after, orders)

    def test_two_changes(self):
        # The first one in the order of the three parts is told.
        ground, _, orders = made_store()
        image = ground.image()
        rng = random.Random(8)
        for _ in range(400):
            after = image
            for _ in range(rng.choice((2, 3, 6))):
                after = with_place(after, rng.randrange(10, ground.top), rng.choice((0, 1, 21, 22, rng.randrange(65536))))
            if has_map(after):
                self.check(after, orders)

    def test_free_buddies(self):
        ground = Ground(100, 16)
        start_buddies(ground, [(66, 0, 0)])
        image = ground.image()
        self.assertIsNone(first_broken_map(image))
        row = lambda page: 6 + 4 * page
        codes = {page: image[2][row(page)] for page in range(100) if image[2][row(page)]}
        orders = set()
        for page, code in codes.items():
            if code == 1:
                continue
            order = code - 2
            orders.add(order)
            half = page + 2 ** order
            split = with_place(with_place(image, row(page), 1 + order), row(half), 1 + order)
            self.assertEqual(first_broken_map(split), (row(half), 1 + order, 0))
            # If one of the two is given, both may stand.
            for each in (page, half):
                given = with_place(with_place(split, row(each), 21 + order), row(each) + 1, 999)
                self.assertIsNone(first_broken_map(given))
                for label in (0, 1000):
                    self.assertEqual(first_broken_map(with_place(given, row(each) + 1, label)), (row(each) + 1, label, 0))
            # A free block behind a free one of another order is no buddy of it.
            if order > 0:
                parts = with_place(with_place(split, row(half), order), row(half + 2 ** (order - 1)), order)
                self.assertEqual(first_broken_map(parts), (row(half + 2 ** (order - 1)), order, 0))
                given = with_place(with_place(parts, row(half + 2 ** (order - 1)), 20 + order), row(
                    half + 2 ** (order - 1)) + 1, 5)
                self.assertIsNone(first_broken_map(given))
        self.assertGreaterEqual(orders, {0, 2, 4})

    def test_free_blocks_side_by_side_in_two_zones(self):
        # Pages 11 | 12 would be no buddies, but 12 | 13 are: the border of the zones lies between them.
        ground = Ground(40, 16)
        start_buddies(ground, [(2, 0, 0), (1, 0, 0)])
        first = ground.word_at(2)
        image = ground.image()
        self.assertEqual(first_broken_word(image), None)
        self.assertIsNone(self.check(image, {}))
        for count in range(1, 6):
            ground = Ground(40, 16)
            start_buddies(ground, [(count, 0, 0), (6, 0, 0), (3, 0, 0)])
            self.assertIsNone(self.check(ground.image(), {}))
        self.assertGreater(first, 0)

    def test_found_may_equal_due(self):
        ground, store, orders = made_store()
        image = ground.image()
        bed = store.heap_beds()[0]
        after = with_place(image, bed[0], holder=0)
        self.assertEqual(first_broken_word(after, **orders), (bed[0], bed[1], bed[1]))
        free = [place for place in range(ground.top) if image[3][place] == 0]
        after = with_place(image, free[7], holder=4)
        self.assertEqual(first_broken_word(after, **orders), (free[7], 5, 5))
        self.assertEqual(told_by(audit, after, **orders), ("Broken", (free[7], 5, 5)))

    def test_orders_that_are_not_told(self):
        ground, _, orders = made_store()
        image = ground.image()
        for name, values in (("arena", range(9)), ("heap", range(1, 7)), ("pages", range(1, 33))):
            for value in values:
                told = self.check(image, {**orders, name: value})
                self.assertEqual(told is None, value == orders[name] or (name == "pages" and told is None))
        base = 2 + 8
        page = Buddies(ground).given(200)[0][0]
        self.assertEqual(first_broken_word(image, **{**orders, "arena": 4}), (base + 4 * page, 22, 25))

    def test_slab_of_another_order(self):
        ground = Ground(40, 16)
        buddies = start_buddies(ground, [(16, 0, 0)])
        for label, order in ((100, 1), (105, 0), (105, 2)):
            start, _ = buddies.take(order, label, 22)
            told = self.check(ground.image(), {})
            page = start // 16
            self.assertEqual(told, (6 + 4 * page, 21 + order, 21 + (1 if label == 105 else 0)))
            buddies.give_back(start, 22)

    def test_tables(self):
        ground, store, orders = made_store()
        image = ground.image()
        page = Buddies(ground).given(402)[0][0]
        frames = [block[0] for block in Buddies(ground).given(401)]
        outs = [block[0] for block in Buddies(ground).given(410)]
        seen = set()
        for at in range(12):
            for word in list(range(22)) + frames + outs + [page, 65535]:
                told = self.check(with_place(image, page * 16 + at, word), orders)
                seen.add(told and told[0] == page * 16 + at)
        self.assertEqual(seen, {True, False, None})
        for at in range(12, 16):
            after = with_place(image, page * 16 + at, 9)
            self.assertEqual(first_broken_word(after, **orders), (page * 16 + at, 9, 5))
        # A frame that nobody names is told by its label.
        start, _ = Buddies(ground).take(0, 401, 27)
        self.assertEqual(first_broken_word(ground.image(), **orders), (10 + 4 * (start // 16) + 1, 401, 0))
        other, _ = Buddies(ground).take(0, 410, 27)
        low = min(start, other)
        self.assertEqual(first_broken_word(ground.image(), **orders)[0], 10 + 4 * (low // 16) + 1)
        self.assertIsNotNone(store)

    def test_table_of_another_order(self):
        for pages, order, due in ((6, 1, 0), (9, 0, 1), (32, 1, 2)):
            ground = Ground(40, 16)
            buddies = start_buddies(ground, [(16, 0, 0)])
            start, _ = buddies.take(order, 409, 27)
            told = self.check(ground.image(), {"pages": pages})
            self.assertEqual(told, (6 + 4 * (start // 16), 21 + order, 21 + due))

    def test_further_words_of_a_table(self):
        for pages, order in ((1, 0), (7, 0), (9, 1), (17, 2), (31, 2)):
            ground = Ground(40, 16, fill=5)
            store = Store(start_buddies(ground, [(16, 0, 0)]), pages=pages)
            store.spaces.reserve(8, pages)
            start, size = Buddies(ground).given(409)[0][0] * 16, 16 << order
            image = ground.image()
            self.assertIsNone(self.check(image, {"pages": pages}))
            self.assertEqual(spaces_in(image, pages=pages), [(8, page, 1, 0, 0) for page in range(pages)])
            for place in range(start + 2 * pages, start + size):
                after = with_place(image, place, 4)
                self.assertEqual(self.check(after, {"pages": pages}), (place, 4, 5))

    def test_frame_of_another_order(self):
        ground = Ground(40, 16)
        store = Store(start_buddies(ground, [(16, 0, 0)]))
        store.spaces.reserve(1, 1)
        store.spaces.commit_pages(1, 0, 1)
        table = Buddies(ground).given(402)[0][0]
        start, _ = Buddies(ground).take(1, 401, 27)
        told = self.check(ground.image(), {})
        self.assertEqual(told, (7 + 4 * (start // 16), 401, 0))
        ground.poke(table * 16, 14)
        ground.poke(table * 16 + 1, start // 16)
        self.assertEqual(self.check(ground.image(), {}), (table * 16 + 1, start // 16, 0))


class AccountTest(Base):
    def test_any_image(self):
        rng = random.Random(2)
        for image in (blank(), blank(3, 64, 9), random_image(rng, 2), made_store()[0].image()):
            due = sorted((holder, image[3].count(holder)) for holder in set(image[3]))
            self.assertEqual(account(image), due)
            self.assertEqual(sum(number for _, number in account(image)), len(image[3]))

    def test_lists_are_new(self):
        ground, _, orders = made_store()
        image = ground.image()
        for call in (lambda: audit(image, **orders), lambda: spaces_in(image, pages=6), lambda: account(image)):
            before = call()
            call().append(0)
            self.assertEqual(call(), before)

    def test_wrong(self):
        image = made_store()[0].image()
        good = {"image": image, "arena": 8, "heap": 6, "pages": 32}
        bad = {
            "image": NO_MAPS, "arena": no_integer_in(0, 8), "heap": no_integer_in(1, 6), "pages": no_integer_in(1, 32)}
        for call in (first_broken_word, audit):
            check_wrong(self, call, good, bad, named=ORDERS)
            low = {"arena": 0, "heap": 1, "pages": 1}
            self.assertNotEqual(told_by(call, image, **low), ("BadValue", ("arena",)))
        check_wrong(self, first_broken_map, {"image": image}, {"image": NO_MAPS})
        check_wrong(self, spaces_in, {"image": image, "pages": 6}, {
            "image": NO_MAPS, "pages": no_integer_in(1, 32)}, named=("pages",))
        check_wrong(self, account, {"image": image}, {"image": NO_IMAGES})

    def test_without_delay(self):
        ground, store, orders = made_store(count=256, width=64, zones=((120, 0, 0), (40, 0, 1)))
        for user in range(1, 9):
            for size in (3, 30, 64, 100, 128) * 3:
                outcome(store.take, size, user)
        image = ground.image()
        started = time.monotonic()
        for _ in range(5):
            self.assertEqual(audit(image, **orders), store.handed())
            self.assertEqual(audit(ground_of(image).image(), **orders), store.handed())
        self.assertLess(time.monotonic() - started, 10)


if __name__ == "__main__":
    unittest.main()
