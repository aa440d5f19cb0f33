"""Points 66 to 68 and the interface of sessions.py."""

import random
import time
import unittest

from allgivenback.buddies import Buddies, start_buddies
from allgivenback.ground import Ground, ground_of
from allgivenback.images import apply_changes, changes, is_changes
from allgivenback.sessions import Session, replayed
from allgivenback.store import Store
from tests.helpers import NO_INTEGERS, ODD_VALUES, check_wrong, no_integer_in, state, told_by
from tests.store_models import PlainSession, PlainStore
from tests.test_drawers import NO_USERS
from tests.test_images import NO_CHANGES, NO_IMAGES
from tests.test_notation import FORMS

NO_REQUESTS = tuple(value for value in ODD_VALUES) + (
    ("take", 1, "x", 5), ["tick"], ("tock",), ("tick", 1), ("get", 1, "x"), ("get", 9, "x", 1), ("free", 1, "X"))
NO_STEPS = tuple(value for value in no_integer_in(0, 1000000000) if value is not None)


class SessionBase(unittest.TestCase):
    def make(self, count=48, width=16, fill=0, zones=((24, 0, 0), (8, 0, 0)), **named):
        """Makes a session over a store, and its plain model."""
        named = {"slow": 2, **named}
        self.ground = Ground(count, width, fill=fill)
        self.session = Session(Store(start_buddies(self.ground, zones), **named))
        self.plain = PlainSession(PlainStore(count, width, fill, zones, **named))
        self.new = self.ground.image()

    def names(self):
        return {user: self.session.names_of(user) for user in range(1, 9)}

    def seen(self):
        """All that can be seen of the session and of its ground."""
        return state(self.ground), self.names(), self.session.records()

    def compare(self):
        self.assertEqual(self.ground.image(), self.plain.image())
        for user, rows in self.names().items():
            self.assertEqual(rows, self.plain.names_of(user))
        self.assertEqual(self.ground.depth, 0)

    def do(self, *request, steps=None):
        """Tries and does a request in the session and in the plain model, and returns the outcome."""
        before = self.seen()
        trial = self.session.trial(request)
        self.assertEqual(self.seen(), before)
        self.assertEqual(trial, self.plain.trial(request), request)
        budget, spent = self.ground.budget, self.ground.spent
        outcome = self.session.do(request, steps=steps) if steps is not None else self.session.do(request)
        due, cost = self.plain.do(request, budget if steps is None else steps)
        self.assertEqual(outcome, due, request)
        self.compare()
        if outcome[0] == "refused":
            self.assertEqual(self.seen(), before)
        else:
            self.assertEqual(outcome, trial[0])
            self.assertEqual(self.ground.spent - spent, cost)
            left = budget if budget is None or steps is not None else budget - cost
            self.assertEqual(self.ground.budget, left)
            rows = changes(before[0][0], self.ground.image())
            self.assertEqual(self.session.records(), before[2] + [(request, outcome, rows)])
            self.assertEqual(len(rows), cost)
        return outcome


class MakingTest(SessionBase):
    def test_home(self):
        self.make()
        store = Store(Buddies(self.ground))
        session = Session(store)
        self.assertIs(session.home, store)
        self.assertEqual([session.records(), session.names_of(1)], [[], []])
        self.assertEqual(told_by(session.undo), ("Unknown", ("record",)))

    def test_wrong(self):
        self.make()
        homes = NO_INTEGERS + (0, Store, Buddies(self.ground), self.ground, self.session)
        check_wrong(self, Session, {"home": self.session.home}, {"home": homes})
        before = self.seen()
        for steps in (0, 1000000000):
            check_wrong(self, self.session.do, {"request": ("tick",), "steps": steps}, {
                "request": NO_REQUESTS, "steps": NO_STEPS}, named=("steps",))
        check_wrong(self, self.session.trial, {"request": ("tick",)}, {"request": NO_REQUESTS})
        rows = tuple(NO_INTEGERS[:5]) + (("tick",), {}, 0, [None], [("tick",), ("tock",)], [["tick"]], [("tick",)] * 401)
        rows += tuple([value] for value in NO_REQUESTS)
        check_wrong(self, self.session.run, {"requests": []}, {"requests": rows})
        # All requests are checked before the first is done.
        self.assertEqual(told_by(self.session.run, [("take", 1, "x", 5, 1), ("tock",)]), ("BadValue", ("requests",)))
        check_wrong(self, self.session.names_of, {"user": 8}, {"user": NO_USERS})
        self.assertEqual(self.seen(), before)

    def test_example(self):
        session = Session(Store(start_buddies(Ground(24, 16), [(16, 0, 0)])))
        self.assertEqual(session.trial(("take", 1, "x", 5, 1)), (("done", (326, 6)), 34))
        self.assertEqual(session.run([("take", 1, "x", 5, 1), ("get", 1, "x", 5), ("get", 1, "x", 6)]), [
            ("done", (326, 6)), ("done", 0), ("refused", "Unknown", ("offset",))])


class SpanTest(SessionBase):
    def setUp(self):
        self.make(fill=7)

    def test_each_request(self):
        outcome = self.do("take", 1, "x", 5, 1)
        self.assertEqual([outcome[0], outcome[1][1]], ["done", 6])
        span = outcome[1]
        self.assertEqual(self.session.names_of(1), [("x", "span") + span])
        self.assertEqual(self.do("get", 1, "x", 5), ("done", 7))
        self.assertEqual(self.do("put", 1, "x", 5, 65535), ("done", None))
        self.assertEqual(self.do("put", 1, "x", 0, 9), ("done", None))
        self.assertEqual(self.do("get", 1, "x", 5), ("done", 65535))
        outcome = self.do("resize", 1, "x", 40)
        self.assertEqual(outcome[1][1], 48)
        self.assertEqual([self.do("get", 1, "x", k)[1] for k in range(7)], [9, 7, 7, 7, 7, 65535, 7])
        self.assertEqual(self.do("pass", 1, "x", 3), ("done", outcome[1]))
        self.assertEqual([self.session.names_of(1), self.session.names_of(3)], [[], [("x", "span") + outcome[1]]])
        self.assertEqual(self.do("get", 3, "x", 5), ("done", 65535))
        self.assertEqual(self.do("get", 1, "x", 5), ("refused", "Unknown", ("name",)))
        self.assertEqual(self.do("free", 3, "x"), ("done", outcome[1]))
        self.assertEqual(self.session.names_of(3), [])
        self.do("settle")
        self.assertEqual(self.ground.image(), self.new)

    def test_names_in_order(self):
        for name in ("b", "ab", "a", "zz", "abcd"):
            self.do("take", 2, name, 3, 1)
        self.do("map", 2, "aa", 1)
        self.assertEqual([row[:2] for row in self.session.names_of(2)], [
            ("a", "span"), ("aa", "area"), ("ab", "span"), ("abcd", "span"), ("b", "span"), ("zz", "span")])
        self.session.names_of(2).clear()
        self.assertEqual(len(self.session.names_of(2)), 6)

    def test_tick_and_settle(self):
        self.make(arena=1, limit=1)
        span = self.do("take", 1, "x", 20, 1)[1]
        self.do("free", 1, "x")
        self.assertEqual(self.do("tick"), ("done", (span[0] // 16,)))
        self.assertEqual(self.do("tick"), ("done", ()))
        self.do("take", 1, "x", 3, 1)
        self.assertEqual(self.do("settle"), ("done", 1))
        self.assertEqual(self.do("settle"), ("done", 0))
        self.assertIs(type(self.do("tick")[1]), tuple)

    def test_names_in_use(self):
        self.do("take", 1, "x", 3, 1)
        self.do("map", 1, "m", 1)
        for name in ("x", "m"):
            self.assertEqual(self.do("take", 1, name, 3, 1), ("refused", "BadValue", ("name",)))
            self.assertEqual(self.do("take", 1, name, 999999999, 1), ("refused", "BadValue", ("name",)))
            self.assertEqual(self.do("map", 1, name, 32), ("refused", "BadValue", ("name",)))
        self.assertEqual(self.do("take", 2, "x", 3, 1)[0], "done")
        self.assertEqual(self.do("map", 2, "m", 1)[0], "done")

    def test_takers(self):
        self.do("take", 1, "x", 3, 1)
        self.do("map", 1, "m", 1)
        self.do("take", 2, "m", 3, 1)
        self.do("map", 2, "x", 1)
        for word, name in (("pass", "x"), ("share", "m")):
            for taker in (1, 2):
                self.assertEqual(self.do(word, 1, name, taker), ("refused", "BadValue", ("taker",)))
            # The taker comes before an unknown name and a name of the other kind.
            other = "m" if name == "x" else "x"
            for taker in (1, 2):
                self.assertEqual(self.do(word, 1, other, taker), ("refused", "BadValue", ("taker",)))
            self.assertEqual(self.do(word, 1, other, 5), ("refused", "Unknown", ("name",)))
            self.assertEqual(self.do(word, 1, "no", 1), ("refused", "BadValue", ("taker",)))
            self.assertEqual(self.do(word, 1, "no", 2), ("refused", "Unknown", ("name",)))
            self.assertEqual(self.do(word, 1, name, 3)[0], "done")

    def test_unknown_names_and_offsets(self):
        span = self.do("take", 1, "x", 3, 1)[1]
        area = self.do("map", 1, "m", 2)[1]
        for word, (kinds, request) in FORMS.items():
            if word in ("take", "map", "tick", "settle"):
                continue
            is_span = word in ("resize", "free", "pass", "put", "get")
            rest = request[3:]
            for name in ("no", "m" if is_span else "x"):
                self.assertEqual(self.do(word, 1, name, *rest), ("refused", "Unknown", ("name",)))
            self.assertEqual(self.do(word, 3, "x" if is_span else "m", *rest), ("refused", "Unknown", ("name",)))
        for word, name, size, rest in (
                ("put", "x", span[1], (5,)), ("get", "x", span[1], ()), ("store", "m", area[1], (5,)),
                ("load", "m", area[1], ())):
            for offset in (size, size + 1, 999999999):
                self.assertEqual(self.do(word, 1, name, offset, *rest), ("refused", "Unknown", ("offset",)))
            self.assertEqual(self.do(word, 1, name, size - 1, *rest)[0], "done")

    def test_refusals_of_the_store(self):
        self.do("take", 1, "x", 3, 1)
        self.assertEqual(self.do("take", 1, "y", 999999999, 1), ("refused", "Unknown", ("size",)))
        self.assertEqual(self.do("take", 1, "y", 1, 536870912), ("refused", "Unknown", ("size",)))
        self.assertEqual(self.do("resize", 1, "x", 999999999), ("refused", "Unknown", ("size",)))
        self.assertEqual(self.do("map", 1, "y", 9), ("refused", "BadValue", ("count",)))
        self.assertEqual(self.do("map", 1, "y", 8)[0], "done")
        told = self.do("map", 1, "z", 1)
        self.assertEqual(told, ("refused", "NoRoom", (("space", tuple(range(8))),)))
        for k in range(9):
            told = self.do("take", 2, "abcdefghi"[k], 100, 1)
        self.assertEqual(told[:2], ("refused", "NoRoom"))
        self.assertEqual(told[2][0][:2], ("extents", 200))

    def test_places_passed_on_behind_the_session(self):
        span = self.do("take", 1, "x", 3, 1)[1]
        for place, taker in ((span[0] + 1, 2),):
            self.ground.pass_on(place, 1, 1, taker)
            self.plain.store.change(place, 7, taker)
        self.assertEqual(self.do("get", 1, "x", 0), ("done", 7))
        refused = ("refused", "NotHeld", (span[0] + 1, 2))
        self.assertEqual(self.do("get", 1, "x", 1), refused)
        self.assertEqual(self.do("put", 1, "x", 1, 5), refused)
        self.assertEqual(self.do("free", 1, "x"), refused)
        self.assertEqual(self.do("resize", 1, "x", 3), refused)
        self.assertEqual(self.do("pass", 1, "x", 2), refused)

    def test_broken(self):
        span = self.do("take", 1, "x", 3, 1)[1]
        self.ground.poke(span[0] - 1, 5)
        self.plain.store.buddies.poke(span[0] - 1, 5)
        self.assertEqual(self.do("free", 1, "x"), ("refused", "Broken", (span[0] - 1, 5, 60001)))


class AreaTest(SessionBase):
    def setUp(self):
        self.make(fill=3)

    def test_each_request(self):
        self.assertEqual(self.do("map", 1, "m", 3), ("done", (0, 48)))
        self.assertEqual(self.session.names_of(1), [("m", "area", 0, 48)])
        self.assertEqual(self.do("map", 1, "n", 2), ("done", (48, 32)))
        self.assertEqual(self.do("load", 1, "n", 31), ("done", 3))
        self.assertEqual(self.do("store", 1, "n", 31, 99), ("done", None))
        self.assertEqual(self.do("load", 1, "n", 31), ("done", 99))
        self.assertEqual(self.do("share", 1, "n", 2), ("done", (0, 32)))
        self.assertEqual(self.session.names_of(2), [("n", "area", 0, 32)])
        self.assertEqual(self.do("out", 2, "n"), ("done", 1))
        self.assertEqual(self.do("out", 2, "n"), ("done", 0))
        self.assertEqual(self.do("protect", 2, "n", 1), ("done", None))
        self.assertEqual(self.do("load", 2, "n", 31), ("done", 99))
        self.assertEqual(self.do("store", 2, "n", 31, 5), ("refused", "Fault", ("denied", 31)))
        self.assertEqual(self.do("protect", 2, "n", 0), ("done", None))
        self.assertEqual(self.do("load", 2, "n", 0), ("refused", "Fault", ("denied", 0)))
        self.assertEqual(self.do("store", 1, "n", 0, 4), ("done", None))
        self.assertEqual(self.do("protect", 2, "n", 2), ("done", None))
        self.assertEqual([self.do("load", user, "n", 0)[1] for user in (1, 2)], [4, 3])
        self.assertEqual(self.do("unmap", 1, "m"), ("done", (0, 48)))
        self.assertEqual(self.do("unmap", 1, "n"), ("done", (48, 32)))
        self.assertEqual(self.do("unmap", 2, "n"), ("done", (0, 32)))
        self.assertEqual(self.ground.image(), self.new)

    def test_without_a_slow_zone(self):
        self.make(slow=0)
        self.do("map", 1, "m", 1)
        self.assertEqual(self.do("out", 1, "m"), ("refused", "Unknown", ("slow",)))

    def test_map_is_one_deed(self):
        self.make(zones=((1, 0, 0), (2, 0, 0)))
        trial = self.session.trial(("map", 1, "m", 2))
        # Twice the page's row in the map, its 16 holders and 4 table words of which 2 are not 0.
        self.assertEqual(trial[0], ("done", (0, 32)))
        self.assertEqual(self.do("map", 1, "m", 2, steps=trial[1] - 1)[1], "Cut")
        self.assertEqual(self.ground.image(), self.new)


class StepTest(SessionBase):
    def setUp(self):
        self.make()

    def test_steps_around_the_cost(self):
        requests = [
            ("take", 1, "x", 5, 1), ("put", 1, "x", 0, 7), ("resize", 1, "x", 20), ("map", 1, "m", 2),
            ("store", 1, "m", 3, 4), ("share", 1, "m", 2), ("out", 1, "m"), ("load", 2, "m", 3), ("pass", 1, "x", 2),
            ("protect", 2, "m", 1), ("free", 2, "x"), ("unmap", 1, "m"), ("tick",), ("settle",), ("get", 1, "y", 0),
            ("unmap", 2, "m"), ("settle",)]
        for request in requests:
            outcome, cost = self.session.trial(request)
            if outcome[0] == "refused":
                self.assertEqual(cost, 0)
                self.assertEqual(self.do(*request, steps=0), outcome)
                continue
            for steps in sorted({0, cost // 2, max(cost - 1, 0)} - {cost}):
                self.assertEqual(self.do(*request, steps=steps), ("refused", "Cut", (cost, steps)))
            self.assertEqual(self.do(*request, steps=cost + (request[0] == "take") * 1000), outcome)
        self.assertEqual(self.ground.image(), self.new)

    def test_budget_of_the_ground(self):
        self.ground.budget = 40
        outcome = self.do("take", 1, "x", 5, 1)
        self.assertEqual([outcome[0], self.ground.budget], ["done", 6 + 40 - 34 - 6])
        left = self.ground.budget
        outcome, cost = self.session.trial(("take", 1, "y", 20, 1))
        self.assertEqual(outcome[0], "done")
        self.assertGreater(cost, left)
        self.assertEqual(self.do("take", 1, "y", 20, 1), ("refused", "Cut", (cost, left)))
        self.assertEqual(self.ground.budget, left)
        # With steps the budget is the same afterwards, whatever the outcome is.
        self.assertEqual(self.do("take", 1, "y", 20, 1, steps=cost), outcome)
        self.assertEqual(self.ground.budget, left)
        self.assertEqual(self.do("take", 1, "z", 20, 1, steps=0)[1], "Cut")
        self.assertEqual(self.do("get", 1, "no", 0, steps=5)[1], "Unknown")
        self.assertEqual(self.ground.budget, left)
        self.assertEqual(self.do("put", 1, "x", 0, 3), ("done", None))
        self.assertEqual(self.ground.budget, left - 1)

    def test_cuts_in_a_run(self):
        self.ground.budget = 35
        told = self.session.run([
            ("take", 1, "x", 5, 1), ("put", 1, "x", 0, 1), ("put", 1, "x", 1, 1), ("get", 1, "x", 0)])
        self.assertEqual(told[1:], [("done", None), ("refused", "Cut", (1, 0)), ("done", 1)])
        self.assertEqual([len(self.session.records()), self.ground.budget], [3, 0])

    def test_wrong_arguments_are_no_outcome(self):
        self.assertEqual(told_by(self.session.do, ("take", 1, "x", 5)), ("BadValue", ("request",)))
        self.assertEqual(told_by(self.session.do, ("tick",), steps=-1), ("BadValue", ("steps",)))
        self.assertEqual(told_by(self.session.do, ("tick",), steps=True), ("BadValue", ("steps",)))
        self.assertEqual(told_by(self.session.do, None, steps=-1), ("BadValue", ("request",)))
        self.assertEqual(told_by(self.session.trial, ("take", 1, "x", 0, 1)), ("BadValue", ("request",)))
        self.assertEqual(self.session.do(("tick",), steps=None), ("done", ()))

    def test_run_of_400(self):
        self.assertEqual(len(self.session.run([("tick",)] * 400)), 400)
        self.assertEqual(len(self.session.run((("tick",),) * 400)), 400)
        self.assertEqual(told_by(self.session.run, [("tick",)] * 401), ("BadValue", ("requests",)))
        self.assertEqual([self.session.run([]), self.session.run(())], [[], []])
        self.assertEqual(len(self.session.records()), 800)


class RecordTest(SessionBase):
    REQUESTS = (
        ("take", 1, "x", 5, 1), ("put", 1, "x", 3, 9), ("get", 1, "x", 3), ("map", 1, "m", 3), ("store", 1, "m", 17, 5),
        ("share", 1, "m", 2), ("out", 1, "m"), ("get", 1, "x", 99), ("load", 2, "m", 17), ("resize", 1, "x", 60),
        ("pass", 1, "x", 4), ("take", 1, "x", 20, 32), ("unmap", 2, "m"), ("free", 4, "x"), ("tick",), ("settle",))

    def setUp(self):
        self.make(fill=2)
        self.images, self.held = [self.new], [self.names()]
        for request in self.REQUESTS:
            if self.do(*request)[0] == "done":
                self.images.append(self.ground.image())
                self.held.append(self.names())

    def test_records(self):
        records = self.session.records()
        self.assertEqual([record[0] for record in records], [
            request for request in self.REQUESTS if request != ("get", 1, "x", 99)])
        for before, after, (_, outcome, rows) in zip(self.images, self.images[1:], records):
            self.assertEqual(outcome[0], "done")
            self.assertTrue(is_changes(rows))
            self.assertEqual(apply_changes(before, rows), after)
        # A request that changes nothing has a record, too.
        self.assertEqual(records[2], (("get", 1, "x", 3), ("done", 9), []))

    def test_lists_are_new(self):
        before = self.session.records()
        told = self.session.records()
        for _, _, rows in told:
            rows.append(None)
        told.clear()
        self.assertEqual(self.session.records(), before)
        self.assertEqual(replayed(self.new, self.session.records()), self.ground.image())

    def test_undo(self):
        records = self.session.records()
        while records:
            request, _, rows = records.pop()
            spent = self.ground.spent
            self.assertEqual(self.session.undo(), request)
            self.assertEqual(self.plain.undo(), request)
            self.assertEqual(self.ground.image(), self.images[len(records)])
            self.assertEqual(self.names(), self.held[len(records)])
            self.assertEqual(self.session.records(), records)
            self.assertEqual(self.ground.spent - spent, len(rows))
            self.compare()
        self.assertEqual(told_by(self.session.undo), ("Unknown", ("record",)))
        self.assertEqual(self.ground.image(), self.new)

    def test_undo_and_do_again(self):
        outcome = self.session.records()[-3][1]
        for _ in range(3):
            self.session.undo()
            self.plain.undo()
        self.assertEqual(self.do("free", 4, "x"), outcome)

    def test_undo_is_cut(self):
        self.make()
        self.do("take", 1, "x", 5, 1)
        cost = len(self.session.records()[0][2])
        self.ground.budget = cost - 1
        before = self.seen()
        self.assertEqual(told_by(self.session.undo), ("Cut", (cost, cost - 1)))
        self.assertEqual(self.seen(), before)
        self.ground.budget = cost
        self.assertEqual(self.session.undo(), ("take", 1, "x", 5, 1))
        self.assertEqual([self.ground.budget, self.ground.image(), self.names()[1]], [0, self.new, []])

    def test_changed_behind_it(self):
        self.make()
        span = self.do("take", 1, "x", 5, 1)[1]
        self.do("put", 1, "x", 2, 9)
        self.ground.write(span[0], 77, 1)
        # The first place is in no row of the last record.
        self.assertEqual(self.session.undo(), ("put", 1, "x", 2, 9))
        before = self.seen()
        self.assertEqual(told_by(self.session.undo), ("Unknown", ("record",)))
        self.assertEqual(self.seen(), before)
        self.ground.write(span[0], 0, 1)
        for place, _, _, word, _ in self.session.records()[0][2]:
            self.ground.poke(place, word ^ 1)
            self.assertEqual(told_by(self.session.undo), ("Unknown", ("record",)))
            self.ground.poke(place, word)
        self.ground.pass_on(span[0] + 1, 1, 1, 2)
        self.assertEqual(told_by(self.session.undo), ("Unknown", ("record",)))
        self.ground.pass_on(span[0] + 1, 1, 2, 1)
        self.assertEqual(self.session.undo(), ("take", 1, "x", 5, 1))
        self.assertEqual(self.ground.image(), self.new)

    def test_replayed(self):
        records = self.session.records()
        for count in range(len(records) + 1):
            self.assertEqual(replayed(self.new, records[:count]), self.images[count])
            self.assertEqual(replayed(self.new, tuple(records[:count])), self.images[count])
        for count in range(len(records)):
            self.assertEqual(replayed(self.images[count], records[count:]), self.images[-1])
        # Only the rows are looked at.
        self.assertEqual(replayed(self.new, [(None, "x", rows) for _, _, rows in records]), self.images[-1])

    def test_replayed_refuses(self):
        records = self.session.records()
        rows = records[0][2]
        bad = ODD_VALUES[:5] + (0, "abc", {}, records[0], [records[0][:2]], [list(records[0])], [records[0] + (1,)])
        bad += ([None], [()], records[1:], records[:1] * 2, [(0, 0, tuple(rows))], [(0, 0, [])] * 401)
        bad += tuple([(0, 0, odd)] for odd in NO_CHANGES)
        place, word, holder, new_word, new_holder = rows[-1]
        for row in ((place, word ^ 1, holder, new_word, new_holder), (place, word, 8, new_word, new_holder),
                    (len(self.new[2]), 2, 0, 0, 0)):
            bad += ([(0, 0, rows[:-1] + [row])] if row != rows[-1] else [None],)
        check_wrong(self, replayed, {"image": self.new, "records": records}, {"image": NO_IMAGES, "records": bad})
        self.assertEqual(replayed(self.new, [(0, 0, [])] * 400), self.new)
        self.assertEqual(replayed(self.new, []), self.new)


class RandomTest(SessionBase):
    def request(self, rng):
        """A random request, mostly for a name that stands for the right kind of thing."""
        user, name = rng.randint(1, 3), rng.choice("abcdefgh")
        word = rng.choice(["take"] * 7 + ["map"] * 3 + ["put", "get", "resize", "resize", "free", "pass"] + [
            "store", "store", "store", "load", "unmap", "share", "share", "protect", "out", "out", "tick", "settle"])
        kind = "area" if word in ("store", "load", "unmap", "share", "protect", "out") else "span"
        fitting = [(each, row[0]) for each in range(1, 4) for row in self.session.names_of(each) if row[1] == kind]
        if word not in ("take", "map") and fitting and rng.random() < 0.85:
            user, name = rng.choice(fitting)
        values = {
            "user": user, "name": name, "taker": rng.randint(1, 3), "size": rng.choice((1, 3, 5, 9, 16, 30, 50, 120, 200)),
            "align": rng.choice((1, 1, 1, 4, 16, 64)), "offset": rng.choice((0, 1, 2, 5, 17, 40)),
            "word": rng.randrange(65536), "count": rng.choice((1, 2, 3, 9)), "rights": rng.choice((0, 1, 1, 2))}
        return (word,) + tuple(values[part] for part in FORMS[word][0])

    def test_against_the_plain_model(self):
        titles, words = {}, {}
        for seed in range(22):
            rng = random.Random(seed)
            self.make(
                count=rng.choice((44, 48)), width=rng.choice((16, 16, 32)), fill=rng.choice((0, 9)),
                zones=rng.choice((((24, 0, 0), (6, 0, 0)), ((12, 0, 0), (2, 1, 0)))), arena=rng.choice((1, 2)),
                heap=rng.choice((1, 2)), limit=rng.choice((1, 2)), lot=rng.choice((1, 2)))
            for _ in range(90):
                request = self.request(rng)
                steps = rng.choice((None, None, None, None, None, None, 30, 1000))
                outcome = self.do(*request, steps=steps)
                title = outcome[1] if outcome[0] == "refused" else "done"
                titles[title] = titles.get(title, 0) + 1
                words[request[0]] = words.get(request[0], 0) + (title == "done")
                if self.session.records() and rng.random() < 0.08:
                    self.assertEqual(self.session.undo(), self.plain.undo())
                    self.compare()
            self.assertEqual(replayed(self.new, self.session.records()), self.ground.image())
            self.back(rng)
        self.assertEqual(sorted(titles), ["BadValue", "Cut", "Fault", "NoRoom", "Unknown", "done"])
        self.assertGreater(min(titles.values()), 5, titles)
        self.assertEqual(sorted(words), sorted(FORMS))
        self.assertGreater(min(words.values()), 3, words)

    def back(self, rng):
        """Undoes all, or gives all back; both lead to the image from the start."""
        if rng.random() < 0.5:
            while self.session.records():
                self.session.undo()
        else:
            for user in range(1, 9):
                for name, kind, _, _ in self.session.names_of(user):
                    self.assertEqual(self.do("free" if kind == "span" else "unmap", user, name)[0], "done")
            self.do("settle")
        self.assertEqual(self.ground.image(), self.new)

    def test_two_sessions_over_copies_act_alike(self):
        rng = random.Random(3)
        self.make()
        requests, told = [], []
        for _ in range(60):
            requests.append(self.request(rng))
            told += self.session.run(requests[-1:])
        other = Session(Store(Buddies(ground_of(self.new)), slow=2))
        self.assertEqual(other.run(tuple(requests)), told)
        self.assertEqual(other.records(), self.session.records())

    def test_400_requests_without_delay(self):
        for width in (16, 64):
            self.make(count=256, width=width, zones=((120, 0, 0), (40, 0, 0)))
            rng = random.Random(width)
            requests = []
            for _ in range(400):
                requests.append(self.request(rng))
                self.session.do(requests[-1])
            while self.session.records():
                self.session.undo()
            self.assertEqual(self.ground.image(), self.new)
            started = time.monotonic()
            told = self.session.run(requests)
            self.assertGreater(len([row for row in told if row[0] == "done"]), 80)
            self.assertEqual(replayed(self.new, self.session.records()), self.ground.image())
            while self.session.records():
                self.session.undo()
            self.assertEqual(self.ground.image(), self.new)
            self.assertLess(time.monotonic() - started, 20)


if __name__ == "__main__":
    unittest.main()
