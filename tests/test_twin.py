"""Point 73 and the interface of twin.py."""

import copy
import random
import time
import unittest

from allgivenback.buddies import start_buddies
from allgivenback.ground import Ground
from allgivenback.sessions import Session
from allgivenback.store import Store
from allgivenback.twin import Twin, is_run
from tests.helpers import HUGE, NO_INTEGERS, ODD_VALUES, Refused, check_wrong, no_integer_in, outcome, told_by
from tests.test_drawers import NO_USERS
from tests.test_images import NO_WORDS
from tests.test_layout import NO_WIDTHS
from tests.test_notation import FORMS

GREATEST = 1000000000
NO_SPANS = NO_INTEGERS + (
    0, [0, 1], (0, 0), (-1, 1), (0, 16385), (5, 16385), (GREATEST, 1), (0, GREATEST), (GREATEST - 1, 2), (0, 1, 2), (True, 1),
    (0, True), (0.0, 1), (0, 1.0), ("0", 1), (HUGE, 1), (0, HUGE), (None, 1))


class PlainTwin:
    """A slow twin: a dict of places, each with its span's start, its word and its holder."""

    def __init__(self, fill):
        self.fill, self.places = fill, {}

    def span(self, start):
        places = [place for place, row in self.places.items() if row[0] == start]
        if not places:
            raise Refused("Unknown", "start")
        return (start, len(places))

    def need_free(self, span, old=None):
        if any(place in self.places and self.places[place][0] != old for place in range(span[0], sum(span))):
            raise Refused("Unknown", "span")

    def need_held(self, start, holder):
        if self.places[start][2] != holder:
            raise Refused("NotHeld", start, self.places[start][2])

    def take(self, span, holder):
        self.need_free(span)
        for place in range(span[0], sum(span)):
            self.places[place] = [span[0], self.fill, holder]

    def give_back(self, start, holder):
        span = self.span(start)
        self.need_held(start, holder)
        for place in range(start, sum(span)):
            del self.places[place]
        return span

    def pass_to(self, start, holder, taker):
        span = self.span(start)
        self.need_held(start, holder)
        for place in range(start, sum(span)):
            self.places[place][2] = taker
        return span

    def resize(self, start, holder, span):
        self.span(start)
        self.need_free(span, old=start)
        self.need_held(start, holder)
        words = self.words_of(start)
        self.give_back(start, holder)
        self.take(span, holder)
        for k, word in enumerate(words[:span[1]]):
            self.places[span[0] + k][1] = word

    def put(self, start, offset, word, holder):
        self.get(start, offset, holder)
        self.places[start + offset][1] = word

    def get(self, start, offset, holder):
        if offset >= self.span(start)[1]:
            raise Refused("Unknown", "offset")
        self.need_held(start, holder)
        return self.places[start + offset][1]

    def set_words(self, start, holder, words):
        if len(words) > self.span(start)[1]:
            raise Refused("Unknown", "words")
        self.need_held(start, holder)
        for k, word in enumerate(words):
            self.places[start + k][1] = word

    def words_of(self, start):
        return [self.places[place][1] for place in range(start, sum(self.span(start)))]

    def handed(self):
        return [self.span(start) + (self.places[start][2],) for start in sorted({row[0] for row in self.places.values()})]


class TwinTest(unittest.TestCase):
    def setUp(self):
        self.twin, self.plain = Twin(fill=7), PlainTwin(7)

    def play(self, name, *values):
        saved = copy.deepcopy(self.plain.places)
        due = outcome(getattr(self.plain, name), *values)
        if type(due) is tuple and due and type(due[0]) is str:
            self.plain.places = saved
        self.assertEqual(outcome(getattr(self.twin, name), *values), due, (name, values))
        self.assertEqual(self.twin.handed(), self.plain.handed())
        for start, _, _ in self.plain.handed():
            self.assertEqual(self.twin.words_of(start), self.plain.words_of(start))
        return due

    def test_fill(self):
        self.assertEqual(Twin().handed(), [])
        twin = Twin()
        twin.take((3, 2), 8)
        self.assertEqual(twin.words_of(3), [0, 0])
        for fill in (0, 65535):
            twin = Twin(fill=fill)
            self.assertIsNone(twin.take((3, 4), 1))
            self.assertEqual(twin.words_of(3), [fill] * 4)
        check_wrong(self, Twin, {"fill": 5}, {"fill": NO_WORDS}, named=("fill",))

    def test_each_method(self):
        self.assertIsNone(self.play("take", (10, 5), 1))
        self.assertIsNone(self.play("take", (15, 1), 2))
        self.assertIsNone(self.play("put", 10, 4, 65535, 1))
        self.assertEqual(self.play("get", 10, 4, 1), 65535)
        self.assertEqual(self.play("get", 10, 0, 1), 7)
        self.assertEqual(self.play("pass_to", 10, 1, 8), (10, 5))
        self.assertEqual(self.play("get", 10, 4, 8), 65535)
        self.assertIsNone(self.play("set_words", 10, 8, [1, 2]))
        self.assertEqual(self.play("words_of", 10), [1, 2, 7, 7, 65535])
        self.assertIsNone(self.play("set_words", 10, 8, ()))
        self.assertIsNone(self.play("set_words", 10, 8, (5, 4, 3, 2, 1)))
        self.assertIsNone(self.play("resize", 10, 8, (8, 7)))
        self.assertEqual(self.play("words_of", 8), [5, 4, 3, 2, 1, 7, 7])
        self.assertIsNone(self.play("resize", 8, 8, (9, 2)))
        self.assertEqual(self.play("words_of", 9), [5, 4])
        self.assertEqual(self.play("handed"), [(9, 2, 8), (15, 1, 2)])
        self.assertEqual(self.play("give_back", 9, 8), (9, 2))
        self.assertEqual(self.play("give_back", 15, 2), (15, 1))
        self.assertEqual(self.play("handed"), [])

    def test_overlaps(self):
        self.play("take", (10, 5), 1)
        self.play("take", (20, 5), 1)
        for span in ((10, 5), (14, 1), (9, 2), (14, 6), (15, 6), (0, 50), (12, 1), (24, 1), (20, 1)):
            self.assertEqual(self.play("take", span, 2), ("Unknown", ("span",)))
        for span in ((20, 1), (24, 9), (14, 7), (0, 50)):
            self.assertEqual(self.play("resize", 10, 1, span), ("Unknown", ("span",)))
        for span in ((15, 5), (5, 5), (25, 1)):
            self.assertIsNone(self.play("take", span, 2))

    def test_edges(self):
        self.assertIsNone(self.play("take", (GREATEST - 3, 3), 1))
        self.assertEqual(self.play("get", GREATEST - 3, GREATEST, 1), ("Unknown", ("offset",)))
        self.assertEqual(self.play("get", GREATEST, 0, 1), ("Unknown", ("start",)))
        self.assertIsNone(self.twin.take((0, 16384), 1))
        self.assertEqual(len(self.twin.words_of(0)), 16384)
        self.assertIsNone(self.twin.put(0, 16383, 1, 1))
        self.assertEqual(told_by(self.twin.take, (20000, 16385), 1), ("BadValue", ("span",)))

    def test_order_of_refusals(self):
        self.play("take", (10, 5), 1)
        self.play("take", (20, 5), 2)
        for name, *rest in (
                ("give_back", 3), ("pass_to", 3, 4), ("resize", 3, (20, 1)), ("put", 99, 0, 3), ("get", 99, 3),
                ("set_words", 3, [0] * 9)):
            self.assertEqual(self.play(name, 11, *rest), ("Unknown", ("start",)))
        self.assertEqual(self.play("words_of", 11), ("Unknown", ("start",)))
        self.assertEqual(self.play("resize", 10, 3, (20, 1)), ("Unknown", ("span",)))
        self.assertEqual(self.play("put", 10, 5, 0, 3), ("Unknown", ("offset",)))
        self.assertEqual(self.play("get", 10, 5, 3), ("Unknown", ("offset",)))
        self.assertEqual(self.play("set_words", 10, 3, [0] * 6), ("Unknown", ("words",)))
        for name, *rest in (
                ("give_back", 3), ("pass_to", 3, 4), ("pass_to", 3, 3), ("resize", 3, (10, 1)), ("put", 4, 0, 3), ("get", 4, 3),
                ("set_words", 3, [0] * 5)):
            self.assertEqual(self.play(name, 10, *rest), ("NotHeld", (10, 1)))

    def test_wrong(self):
        self.play("take", (10, 5), 1)
        starts, offsets = no_integer_in(0, GREATEST), no_integer_in(0, GREATEST)
        for span in ((0, 1), (GREATEST - 16384, 16384)):
            check_wrong(self, self.twin.take, {"span": span, "holder": 9 - 1}, {"span": NO_SPANS, "holder": NO_USERS})
            for start in (0, 10, GREATEST):
                check_wrong(self, self.twin.resize, {"start": start, "holder": 1, "span": span}, {
                    "start": starts, "holder": NO_USERS, "span": NO_SPANS})
        for start in (0, 10, GREATEST):
            good, bad = {"start": start, "holder": 8}, {"start": starts, "holder": NO_USERS}
            check_wrong(self, self.twin.give_back, good, bad)
            check_wrong(self, self.twin.pass_to, {**good, "taker": 1}, {**bad, "taker": NO_USERS})
            words = NO_INTEGERS[:3] + ("", "1", {}, {1}, 0, range(2)) + tuple([odd] for odd in NO_WORDS)
            check_wrong(self, self.twin.set_words, {**good, "words": [1]}, {
                **bad, "words": words + tuple((0, odd) for odd in NO_WORDS)})
            for offset in (0, GREATEST):
                check_wrong(self, self.twin.put, {"start": start, "offset": offset, "word": 65535, "holder": 8}, {
                    "start": starts, "offset": offsets, "word": NO_WORDS, "holder": NO_USERS})
                check_wrong(self, self.twin.get, {"start": start, "offset": offset, "holder": 8}, {
                    "start": starts, "offset": offsets, "holder": NO_USERS})
            check_wrong(self, self.twin.words_of, {"start": start}, {"start": starts})
        self.assertEqual(self.twin.handed(), [(10, 5, 1)])

    def test_lists_are_new(self):
        words = [1, 2, 3]
        self.play("take", (10, 3), 1)
        self.twin.set_words(10, 1, words)
        words[0] = 99
        self.twin.words_of(10).clear()
        self.twin.handed().clear()
        self.assertEqual([self.twin.words_of(10), self.twin.handed()], [[1, 2, 3], [(10, 3, 1)]])

    def test_against_the_plain_model(self):
        titles = {}
        for seed in range(25):
            rng = random.Random(seed)
            self.setUp()
            for _ in range(80):
                rows = self.plain.handed()
                start = rng.choice(rows)[0] if rows and rng.random() < 0.9 else rng.randrange(40)
                span, user = (rng.randrange(40), rng.choice((1, 1, 2, 3, 8))), rng.choice((1, 1, 2))
                told = self.play(*rng.choice((
                    ("take", span, user), ("take", span, user), ("give_back", start, user), ("pass_to", start, user, 1),
                    ("resize", start, user, span), ("resize", start, user, (start, span[1])),
                    ("put", start, rng.randrange(5), rng.randrange(65536), user), ("get", start, rng.randrange(5), user),
                    ("set_words", start, user, [rng.randrange(9) for _ in range(rng.randrange(5))]),
                    ("words_of", start))))
                if type(told) is tuple and type(told[0]) is str:
                    titles[told] = titles.get(told, 0) + 1
        parameters = {told[1][0] for told in titles if told[0] == "Unknown"}
        self.assertEqual(parameters, {"start", "span", "offset", "words"})
        self.assertIn("NotHeld", {told[0] for told in titles})


# Requests with outcomes that are right, and wrong values for the last of them. The width is 16, the fill is 3.
TAKE = (("take", 1, "x", 5, 4), ("done", (8, 6)))
MAP = (("map", 1, "m", 2), ("done", (16, 32)))
NO_SPAN_VALUES = NO_INTEGERS + (0, (8,), [8, 6], (8, 6, 1), (-4, 6), (8, 6.0), (8.0, 6), (True, 6), "done", (8, -6))
NO_COUNTS = (-1, -HUGE) + NO_INTEGERS
CASES = (
    ((), TAKE, ((8, 4), (4, 4), (9, 6), (10, 6), (8, 16385), (GREATEST, 5), (GREATEST - 4, 5)) + NO_SPAN_VALUES),
    ((TAKE,), (("take", 2, "x", 1, 1), ("done", (14, 1))), ((13, 1), (8, 1), (7, 2), (0, 99)) + NO_SPAN_VALUES),
    ((TAKE,), (("resize", 1, "x", 7), ("done", (9, 7))), ((9, 6), (8, 16385), (8, 0)) + NO_SPAN_VALUES),
    ((TAKE,), (("free", 1, "x"), ("done", (8, 6))), ((8, 5), (9, 6), (8, 7)) + NO_SPAN_VALUES),
    ((TAKE,), (("pass", 1, "x", 2), ("done", (8, 6))), ((8, 5), (9, 6), (8, 7)) + NO_SPAN_VALUES),
    ((TAKE,), (("put", 1, "x", 5, 9), ("done", None)), (0, 9, (), False, "None", [])),
    ((TAKE,), (("get", 1, "x", 5), ("done", 3)), (2, 4, 0, None, 3.0, "3", (3,), True)),
    ((), MAP, ((17, 32), (8, 32), (16, 31), (16, 33), (16, 16), (16, 48), (0, 16)) + NO_SPAN_VALUES),
    ((MAP,), (("map", 1, "n", 1), ("done", (48, 16))), ((32, 16), (16, 16), (40, 16)) + NO_SPAN_VALUES),
    ((MAP,), (("map", 2, "m", 1), ("done", (16, 16))), ((8, 16),) + NO_SPAN_VALUES),
    ((MAP,), (("unmap", 1, "m"), ("done", (16, 32))), ((16, 31), (0, 32), (16, 33)) + NO_SPAN_VALUES),
    ((MAP,), (("share", 1, "m", 2), ("done", (0, 32))), ((0, 16), (8, 32), (0, 31), (0, 48)) + NO_SPAN_VALUES),
    ((MAP, (("map", 2, "n", 1), ("done", (16, 16)))), (("share", 1, "m", 2), ("done", (32, 32))), ((0, 32), (16, 32))),
    ((MAP,), (("protect", 1, "m", 0), ("done", None)), (0, False, ())),
    ((MAP,), (("store", 1, "m", 31, 9), ("done", None)), (0, 9, False)),
    ((MAP,), (("load", 1, "m", 31), ("done", 3)), (0, 2, None, 3.0, True)),
    ((MAP,), (("out", 1, "m"), ("done", 2)), NO_COUNTS),
    ((), (("tick",), ("done", (3, 5))), NO_INTEGERS[:5] + ([], 0, (-1,), (3, -5), (True,), (None,), (1.0,), ((),))),
    ((), (("settle",), ("done", 4)), NO_COUNTS),
)


def judged(rows, **named):
    return is_run([row[0] for row in rows], [row[1] for row in rows], width=16, fill=3, **named)


class RunTest(unittest.TestCase):
    def test_one_wrong_value(self):
        for before, (request, due), wrong in CASES:
            rows = list(before) + [(request, due)]
            self.assertIs(judged(rows), True, rows)
            for value in wrong:
                if type(value) is type(due[1]) and value == due[1]:
                    continue
                self.assertIs(judged(list(before) + [(request, ("done", value))]), False, (request, value))

    def test_forms_of_outcomes(self):
        for before, (request, due), _ in CASES:
            for odd in ODD_VALUES + (
                    due + (0,), due[:1], list(due), ("Done",) + due[1:], (b"done",) + due[1:], due[::-1], (due,),
                    ("refused",), ("refused", "Unknown"), ("refused", due[1], ()), ("done", "refused", ("x",))):
                self.assertIs(judged(list(before) + [(request, odd)]), False, odd)

    def test_refused_outcomes(self):
        counts = {"BadValue": 1, "Broken": 3, "Unknown": 1, "NotHeld": 2, "Fault": 2, "NoRoom": 1, "Cut": 2}
        for request in [TAKE[0], ("get", 1, "no", 0), ("tick",), ("free", 1, "x")]:
            for title, count in counts.items():
                for value in (0, None, "x", (), [], HUGE, 1.5):
                    self.assertIs(judged([(request, ("refused", title, (value,) * count))]), True)
                for fields in ((), (0,) * (count - 1), (0,) * (count + 1)):
                    self.assertIs(judged([(request, ("refused", title, fields))]), len(fields) == count)
                for odd in ([0] * count, None, 0, "x" * count, {0: 0}):
                    self.assertIs(judged([(request, ("refused", title, odd))]), False)
            for title in ("StoreError", "BadLine", "ValueError", "", "badvalue", None, 0, ("Cut",), ["Cut"], b"Cut"):
                for count in range(4):
                    self.assertIs(judged([(request, ("refused", title, (0,) * count))]), False)
            for odd in (["refused", "Cut", (0, 0)], ("Refused", "Cut", (0, 0)), ("refused", "Cut", (0, 0), 0)):
                self.assertIs(judged([(request, odd)]), False)

    def test_refused_outcomes_change_nothing(self):
        cut = ("refused", "Cut", (3, 2))
        self.assertIs(judged([(TAKE[0], cut), TAKE, (("free", 1, "x"), cut), (("get", 1, "x", 0), ("done", 3))]), True)
        self.assertIs(judged([(TAKE[0], cut), (("get", 1, "x", 0), ("done", 3))]), False)
        rows = [TAKE, (("put", 1, "x", 0, 9), cut), (("get", 1, "x", 0), ("done", 9))]
        self.assertIs(judged(rows), False)

    def test_lengths_and_lists(self):
        self.assertIs(judged([]), True)
        self.assertIs(is_run((), [], width=64), True)
        for odd in ((), None, {}, "", 0, [("done", ())]):
            self.assertIs(is_run([], odd, width=16), False)
        requests, outcomes = [TAKE[0], ("tick",)], [TAKE[1], ("done", ())]
        self.assertIs(is_run(requests, outcomes, width=16), True)
        for odd in (tuple(outcomes), outcomes[:1], outcomes + [("done", ())], [outcomes], outcomes[::-1], dict(outcomes)):
            self.assertIs(is_run(requests, odd, width=16), False)

    def test_names(self):
        # A done request must not be one that the session itself refuses.
        get, load = (("get", 1, "x", 0), ("done", 3)), (("load", 1, "m", 0), ("done", 3))
        self.assertIs(judged([TAKE, MAP, get, load]), True)
        wrong = (
            [get], [load], [TAKE, (("take", 1, "x", 1, 1), ("done", (0, 1)))], [TAKE, (("map", 1, "x", 1), ("done", (0, 16)))],
            [MAP, (("take", 1, "m", 1, 1), ("done", (0, 1)))], [MAP, (("map", 1, "m", 1), ("done", (48, 16)))],
            [TAKE, (("load", 1, "x", 0), ("done", 3))], [MAP, (("get", 1, "m", 0), ("done", 3))],
            [TAKE, (("get", 2, "x", 0), ("done", 3))], [TAKE, (("get", 1, "y", 0), ("done", 3))],
            [TAKE, (("get", 1, "x", 6), ("done", 3))], [TAKE, (("put", 1, "x", 6, 1), ("done", None))],
            [MAP, (("load", 1, "m", 32), ("done", 3))], [MAP, (("store", 1, "m", 32, 1), ("done", None))],
            [TAKE, (("pass", 1, "x", 1), ("done", (8, 6)))], [MAP, (("share", 1, "m", 1), ("done", (48, 32)))],
            [TAKE, (("free", 1, "x"), ("done", (8, 6))), get], [MAP, (("unmap", 1, "m"), ("done", (16, 32))), load],
            [TAKE, (("pass", 1, "x", 2), ("done", (8, 6))), get],
            [TAKE, (("unmap", 1, "x"), ("done", (8, 6)))], [MAP, (("free", 1, "m"), ("done", (16, 32)))],
            [MAP, (("resize", 1, "m", 4), ("done", (0, 4)))], [TAKE, (("protect", 1, "x", 1), ("done", None))],
            [TAKE, (("out", 1, "x"), ("done", 0))], [TAKE, (("share", 1, "x", 2), ("done", (0, 16)))],
            [MAP, (("pass", 1, "m", 2), ("done", (16, 32)))],
            [TAKE, (("take", 2, "x", 1, 1), ("done", (0, 1))), (("pass", 1, "x", 2), ("done", (8, 6)))],
            [MAP, (("take", 2, "m", 1, 1), ("done", (0, 1))), (("share", 1, "m", 2), ("done", (0, 32)))])
        for rows in wrong:
            self.assertIs(judged(rows), False, rows)
            self.assertIs(judged(rows[:-1]), True, rows)

    def test_words_and_rights(self):
        rows = [
            TAKE, (("put", 1, "x", 4, 9), ("done", None)), (("resize", 1, "x", 20), ("done", (40, 24))),
            (("get", 1, "x", 4), ("done", 9)), (("get", 1, "x", 23), ("done", 3)),
            (("pass", 1, "x", 5), ("done", (40, 24))), (("get", 5, "x", 4), ("done", 9)),
            (("resize", 5, "x", 2), ("done", (8, 2))), (("resize", 5, "x", 9), ("done", (8, 9))),
            (("get", 5, "x", 4), ("done", 3)), (("free", 5, "x"), ("done", (8, 9))), TAKE,
            (("get", 1, "x", 4), ("done", 3)),
            MAP, (("store", 1, "m", 17, 77), ("done", None)), (("share", 1, "m", 2), ("done", (0, 32))),
            (("load", 2, "m", 17), ("done", 77)), (("store", 2, "m", 17, 5), ("done", None)),
            (("load", 1, "m", 17), ("done", 77)), (("out", 1, "m"), ("done", 0)), (("protect", 1, "m", 1), ("done", None)),
            (("load", 1, "m", 17), ("done", 77)), (("share", 1, "m", 3), ("done", (96, 32))),
            (("load", 3, "m", 17), ("done", 77)), (("unmap", 1, "m"), ("done", (16, 32))), MAP,
            (("load", 1, "m", 17), ("done", 3)), (("store", 1, "m", 0, 1), ("done", None))]
        for count in range(len(rows) + 1):
            self.assertIs(judged(rows[:count]), True, rows[count - 1])
        for at, (request, due) in enumerate(rows):
            if request[0] in ("get", "load"):
                for value in (0, 3, 5, 9, 77):
                    bent = rows[:at] + [(request, ("done", value))] + rows[at + 1:]
                    self.assertIs(judged(bent), value == due[1])
        # Stores need the rights 2, loads at least 1; the rights go along when an area is shared.
        for rights in (0, 1, 2):
            protect = (("protect", 1, "m", rights), ("done", None))
            share = (("share", 1, "m", 2), ("done", (0, 32)))
            for user in (1, 2):
                self.assertIs(judged([MAP, protect, share, (("store", user, "m", 0, 4), ("done", None))]), rights == 2)
                self.assertIs(judged([MAP, protect, share, (("load", user, "m", 0), ("done", 3))]), rights > 0)
            back = (("protect", 1, "m", 2), ("done", None))
            self.assertIs(judged([MAP, share, protect, (("store", 2, "m", 0, 4), ("done", None))]), True)
            self.assertIs(judged([MAP, protect, back, (("store", 1, "m", 0, 4), ("done", None))]), True)

    def test_spans_and_areas_lie_apart(self):
        # Spans are of one ground; the areas of each user are of a space of their own.
        span = (("take", 1, "y", 32, 1), ("done", (16, 32)))
        self.assertIs(judged([MAP, span, (("map", 2, "m", 2), ("done", (16, 32)))]), True)
        self.assertIs(judged([span, (("take", 2, "y", 32, 1), ("done", (16, 32)))]), False)

    def test_each_user(self):
        for user in range(1, 9):
            taker = user % 8 + 1
            rows = [
                (("take", user, "x", 1, 1), ("done", (user, 1))), (("map", user, "m", 1), ("done", (0, 16))),
                (("pass", user, "x", taker), ("done", (user, 1))), (("share", user, "m", taker), ("done", (16, 16))),
                (("get", taker, "x", 0), ("done", 3)), (("load", taker, "m", 15), ("done", 3))]
            self.assertIs(judged(rows), True)

    def test_great_spans(self):
        for size, due in ((16384, True), (16385, False)):
            self.assertIs(judged([(("take", 1, "x", 1, 1), ("done", (0, size)))]), due)
            self.assertIs(judged([TAKE, (("resize", 1, "x", 1), ("done", (0, size)))]), due)
        self.assertIs(judged([(("take", 1, "x", 20000, 1), ("done", (0, 20000)))]), False)

    def test_width_and_fill(self):
        for width in (16, 32, 64):
            rows = [("map", 1, "m", 1)], [("done", (width, width))]
            for other in (16, 32, 64):
                self.assertIs(is_run(*rows, width=other), width == other)
        for fill in (0, 65535):
            rows = [TAKE[0], ("get", 1, "x", 0)], [TAKE[1], ("done", fill)]
            self.assertIs(is_run(*rows, width=16, fill=fill), True)
            self.assertIs(is_run(*rows, width=16), fill == 0)

    def test_wrong(self):
        requests = (
            None, 0, "", ("tick",), {}, [None], [("tock",)], [["tick"]], [("tick",)] * 401, [("take", 1, "x", 5)])
        for outcomes in ([("done", ())], None, 5):
            check_wrong(
                self, is_run, {"requests": [("tick",)], "outcomes": outcomes, "width": 64, "fill": 65535},
                {"requests": requests, "width": NO_WIDTHS, "fill": NO_WORDS}, named=("width", "fill"))
        self.assertIs(is_run([("tick",)] * 400, [("done", ())] * 400, width=16), True)


class SessionTest(unittest.TestCase):
    def request(self, rng, session):
        """A random request, mostly for a name that stands for the right kind of thing."""
        user, name = rng.randint(1, 3), rng.choice("abcdefgh")
        word = rng.choice(["take"] * 6 + ["map"] * 3 + sorted(FORMS) * 2 + ["put", "get", "store", "load"] * 3)
        kind = "area" if word in ("store", "load", "unmap", "share", "protect", "out") else "span"
        fitting = [(each, row[0]) for each in range(1, 4) for row in session.names_of(each) if row[1] == kind]
        if word not in ("take", "map") and fitting and rng.random() < 0.9:
            user, name = rng.choice(fitting)
        values = {
            "user": user, "name": name, "taker": rng.randint(1, 3), "size": rng.choice((1, 3, 9, 16, 30, 50)),
            "align": rng.choice((1, 1, 4, 16, 32)), "offset": rng.choice((0, 1, 2, 5, 17)), "word": rng.randrange(65536),
            "count": rng.choice((1, 2)), "rights": rng.choice((0, 1, 2, 2))}
        return (word,) + tuple(values[part] for part in FORMS[word][0])

    def told(self, seed, count):
        """Requests and the outcomes that a session told, with the width and the fill."""
        rng = random.Random(seed)
        ground = Ground(60, rng.choice((16, 32)), fill=rng.choice((0, 9)))
        session = Session(Store(start_buddies(ground, ((26, 0, 0), (6, 0, 0))), slow=2, arena=rng.choice((1, 2))))
        requests, outcomes = [], []
        for _ in range(count):
            requests.append(self.request(rng, session))
            outcomes.append(session.do(requests[-1], steps=rng.choice((None, None, None, 20))))
        return requests, outcomes, {"width": ground.width, "fill": ground.fill}, rng

    def test_what_sessions_tell(self):
        for seed in range(20):
            requests, outcomes, named, _ = self.told(seed, 100)
            self.assertIs(is_run(requests, outcomes, **named), True)
            self.assertIs(is_run(tuple(requests), outcomes, **named), True)
            self.assertGreater(len([row for row in outcomes if row[0] == "done"]), 20)

    def test_one_value_that_cannot_be_right(self):
        bent, words = 0, set()
        for seed in range(8):
            requests, outcomes, named, rng = self.told(seed, 80)
            for at, (request, told) in enumerate(zip(requests, outcomes)):
                if told[0] == "refused":
                    continue
                value = told[1]
                if request[0] in ("get", "load"):
                    odd = [value + 1, value - 1, None, (value,)]
                elif value is None:
                    odd = [0, False, ()]
                elif request[0] in ("free", "pass", "unmap"):
                    odd = [(value[0] + 1, value[1]), (value[0], value[1] + 1), (value[0], value[1] - 1), list(value)]
                elif request[0] in ("map", "share"):
                    odd = [(value[0] + 1, value[1]), (value[0], value[1] + 1), (value[0], value[1] - 1), list(value)]
                elif request[0] in ("take", "resize"):
                    odd = [(value[0], request[3] - 1), list(value), (value[0], 20000), (-1, value[1])]
                elif request[0] == "tick":
                    odd = [list(value), value + (-1,), None]
                else:
                    odd = [-1, None, True, (value,)]
                words.add(request[0])
                for each in rng.sample(odd, 2):
                    rows = outcomes[:at] + [("done", each)] + outcomes[at + 1:]
                    self.assertIs(is_run(requests, rows, **named), False, (request, each))
                    bent += 1
        self.assertEqual(words, set(FORMS))
        self.assertGreater(bent, 300)

    def test_overlapping_take(self):
        found = 0
        for seed in range(6):
            requests, outcomes, named, _ = self.told(seed, 60)
            held = {}
            for at, (request, told) in enumerate(zip(requests, outcomes)):
                if told[0] == "refused":
                    continue
                if request[0] == "take" and held:
                    start, size = sorted(held.values())[0]
                    span = (start - start % request[4] + size - 1, max(request[3], size) + request[4])
                    span = (span[0] - span[0] % request[4], span[1])
                    rows = outcomes[:at] + [("done", span)] + outcomes[at + 1:]
                    self.assertIs(is_run(requests, rows, **named), False)
                    found += 1
                if request[0] in ("take", "resize"):
                    held[request[1:3]] = told[1]
                elif request[0] == "free":
                    del held[request[1:3]]
                elif request[0] == "pass":
                    held[request[3], request[2]] = held.pop(request[1:3])
        self.assertGreater(found, 10)

    def test_400_without_delay(self):
        requests = [("take", 1 + k % 8, "abcdefghijklmnopqrstuvwxyz"[k // 8 % 26] + "ab"[k // 208], 1, 1) for k in range(400)]
        outcomes = [("done", (2 * k, 1)) for k in range(400)]
        started = time.monotonic()
        self.assertIs(is_run(requests, outcomes, width=16), True)
        self.assertIs(is_run(requests, outcomes[:-1] + [("done", (0, 1))], width=16), False)
        self.assertLess(time.monotonic() - started, 5)


if __name__ == "__main__":
    unittest.main()
