"""Points 63 to 65 and the interface of notation.py."""

import random
import unittest

from allgivenback.notation import is_request, parse_requests, print_requests
from tests.helpers import HUGE, NO_INTEGERS, ODD_VALUES, bendings, check_wrong, told_by

MOST = 999999999
# A request of each form, and for each part behind the first word the values at its edges.
FORMS = {
    "take": (("user", "name", "size", "align"), ("take", 1, "x", 5, 4)),
    "resize": (("user", "name", "size"), ("resize", 2, "ab", 7)),
    "free": (("user", "name"), ("free", 3, "abc")),
    "pass": (("user", "name", "taker"), ("pass", 4, "abcd", 5)),
    "put": (("user", "name", "offset", "word"), ("put", 5, "z", 0, 65535)),
    "get": (("user", "name", "offset"), ("get", 6, "a", 9)),
    "map": (("user", "name", "count"), ("map", 7, "m", 32)),
    "unmap": (("user", "name"), ("unmap", 8, "m")),
    "share": (("user", "name", "taker"), ("share", 1, "m", 2)),
    "protect": (("user", "name", "rights"), ("protect", 1, "m", 0)),
    "store": (("user", "name", "offset", "word"), ("store", 1, "m", 3, 4)),
    "load": (("user", "name", "offset"), ("load", 1, "m", 3)),
    "out": (("user", "name"), ("out", 1, "m")),
    "tick": ((), ("tick",)),
    "settle": ((), ("settle",)),
}
EDGES = {
    "user": (1, 8), "taker": (1, 8), "size": (1, MOST), "offset": (0, MOST), "word": (0, 65535), "count": (1, 32),
    "rights": (0, 2), "align": (1, 536870912),
}
NAMES = ("a", "z", "az", "zzz", "abcd", "take")
NO_NAMES = (
    "", "abcde", "A", "aB", "a1", "1", "a b", " a", "a ", "a\n", "\n", "a-b", "`", "{", "a.b", b"a", 1, None, True,
    ("a",), ["a"], {"a"}, 1.0)


def good_parts(kind):
    """Right values of a part."""
    if kind == "name":
        return NAMES
    if kind == "align":
        return tuple(2 ** k for k in range(30))
    return EDGES[kind] + (sum(EDGES[kind]) // 2,)


def bad_parts(kind):
    """Wrong values of a part."""
    if kind == "name":
        return NO_NAMES
    low, high = EDGES[kind]
    odd = (low - 1, high + 1, -high, HUGE, -HUGE, float(low), str(low)) + NO_INTEGERS
    return odd + ((3, 0, 6, 2 ** 30, 536870911) if kind == "align" else ())


class RequestTest(unittest.TestCase):
    def test_each_form(self):
        for word, (kinds, request) in FORMS.items():
            self.assertIs(is_request(request), True, request)
            for at, kind in enumerate(kinds, start=1):
                for value in good_parts(kind):
                    self.assertIs(is_request(request[:at] + (value,) + request[at + 1:]), True, (word, value))
                for value in bad_parts(kind):
                    self.assertIs(is_request(request[:at] + (value,) + request[at + 1:]), False, (word, value))

    def test_bent_forms(self):
        for word, (kinds, request) in FORMS.items():
            self.assertIs(is_request(list(request)), False)
            for bent in (request + (1,), request + ("a",), request[:-1], request + request[-1:], (request,), word):
                self.assertIs(is_request(bent), False, bent)
            for other in ("", word + " ", word.upper(), word[:-1], word.encode(), 0, None, (word,), "none"):
                self.assertIs(is_request((other,) + request[1:]), False)
            for other, (more, _) in FORMS.items():
                if len(more) != len(kinds):
                    self.assertIs(is_request((other,) + request[1:]), False)

    def test_take_has_five_parts(self):
        self.assertIs(is_request(("take", 1, "x", 5)), False)
        self.assertIs(is_request(("take", 1, "x", 5, 1)), True)
        self.assertIs(is_request(("take", 1, "x", 5, 1, 1)), False)

    def test_taker_may_be_the_user(self):
        self.assertIs(is_request(("pass", 1, "x", 1)), True)
        self.assertIs(is_request(("share", 1, "x", 1)), True)

    def test_any_value(self):
        for value in ODD_VALUES + (("tick", None), (("tick",),), ("tick",) * 2, (None,), ([],), ({},)):
            self.assertIs(is_request(value), False)


class WrittenTest(unittest.TestCase):
    def test_examples(self):
        self.assertEqual(parse_requests("take 1 x 5 1\nput 1 x 4 77\n"), [
            ("take", 1, "x", 5, 1), ("put", 1, "x", 4, 77)])
        self.assertEqual(print_requests([("take", 1, "x", 5, 1), ("tick",)]), "take 1 x 5\ntick\n")

    def test_no_requests(self):
        for empty in ([], ()):
            self.assertEqual(print_requests(empty), "")
        self.assertEqual(parse_requests(""), [])

    def test_each_form(self):
        lines = []
        for word, (kinds, request) in FORMS.items():
            line = " ".join(str(part) for part in request) + "\n"
            self.assertEqual([print_requests([request]), print_requests((request,))], [line, line])
            self.assertEqual(parse_requests(line), [request])
            lines.append(line)
        requests = [request for _, request in FORMS.values()]
        self.assertEqual(print_requests(requests), "".join(lines))
        self.assertEqual(parse_requests("".join(lines)), requests)

    def test_alignment_of_one(self):
        self.assertEqual(print_requests([("take", 1, "x", 1, 1)]), "take 1 x 1\n")
        self.assertEqual(print_requests([("take", 1, "x", 1, 2)]), "take 1 x 1 2\n")
        for text in ("take 1 x 1\n", "take 1 x 1 1\n"):
            self.assertEqual(parse_requests(text), [("take", 1, "x", 1, 1)])
        # Other requests that end with 1 are written whole.
        for request in (("pass", 2, "x", 1), ("put", 1, "x", 0, 1), ("resize", 1, "x", 1), ("protect", 1, "x", 1)):
            self.assertTrue(print_requests([request]).endswith(" 1\n"))

    def test_back_and_forth(self):
        for seed in range(30):
            rng = random.Random(seed)
            requests = []
            for _ in range(rng.choice((1, 5, 40))):
                word, (kinds, _) = rng.choice(sorted(FORMS.items()))
                requests.append((word, *[rng.choice(good_parts(kind)) for kind in kinds]))
            text = print_requests(requests)
            self.assertEqual(parse_requests(text), requests)
            self.assertEqual(print_requests(parse_requests(text)), text)

    def test_four_hundred(self):
        requests = [("get", 1, "x", k) for k in range(400)]
        self.assertEqual(parse_requests(print_requests(requests)), requests)
        self.assertEqual(len(parse_requests("tick\n" * 400)), 400)
        self.assertEqual(told_by(print_requests, [("tick",)] * 401), ("BadValue", ("requests",)))

    def test_wrong(self):
        rows = NO_INTEGERS[:5] + (0, "tick", "", ("tick",), {}, {("tick",): 1}, {("tick",)}, range(1))
        rows += ([("tick",), None], [["tick"]], (("take", 1, "x", 5),), [("tick",)] * 401, [("tick",), ("tock",)])
        rows += tuple([bent] for bent in bendings(("put", 1, "x", 4, 77)) if is_request(bent) is False)
        rows = tuple(row for row in rows if row != ())
        check_wrong(self, print_requests, {"requests": [("tick",)]}, {"requests": rows})
        texts = tuple(value for value in NO_INTEGERS if value not in ("", "1")) + (0, ["tick\n"], b"tick\n", ("tick\n",))
        texts += tuple("tick\n" + odd for odd in ("%", "\t", "\r", "\x00", "\x1f", "\x7f", "\x80", "\xe9", "\u2028", "\U0001f600"))
        texts += ("take 1 x 5\r\n", "take 9\n%", "bad % line")
        check_wrong(self, parse_requests, {"text": ""}, {"text": texts})


class BadLineTest(unittest.TestCase):
    def check(self, text, line, column):
        self.assertEqual(told_by(parse_requests, text), ("BadLine", (line, column)), text)

    def test_first_words(self):
        for word in ("", "Take", "TAKE", "takes", "tak", "0", "1", "x", "tick,", "-", "~", "!"):
            self.check(word + "\n", 1, 1)
            self.check(word + " 1 x 5\n", 1, 1)
            self.check("tick\n" + word + " 1 x 5\n", 2, 1)

    def test_empty_lines_and_words(self):
        self.check("\n", 1, 1)
        self.check("\n\n", 1, 1)
        self.check("tick\n\n", 2, 1)
        self.check("tick\n\ntick\n", 2, 1)
        self.check(" tick\n", 1, 1)
        self.check(" \n", 1, 1)
        self.check("tick \n", 1, 6)
        self.check("take  1 x 5\n", 1, 6)
        self.check("take 1  x 5\n", 1, 8)
        self.check("take 1 x 5 \n", 1, 12)
        self.check("take 1 x 5 1 \n", 1, 14)
        self.check("take 1 x \n", 1, 10)
        self.check("take \n", 1, 6)
        self.check("free 1 x \n", 1, 10)

    def test_numbers(self):
        for bad in ("0", "9", "01", "+1", "-1", "1.0", "1x", "x", "one", "1,", "10", "1" * 10, "0000000001", "1_0"):
            self.check("take " + bad + " x 5\n", 1, 6)
        for bad in ("0", "00", "05", "5x", "1234567890", "0x5", "5.", "x", "1e3"):
            self.check("take 1 x " + bad + "\n", 1, 10)
        for bad in ("0", "3", "12", "536870913", "1073741824", "02", "999999999", "x"):
            self.check("take 1 x 5 " + bad + "\n", 1, 12)
        for bad in ("65536", "00", "065", "-1", "1000000000", "w"):
            self.check("put 1 x 0 " + bad + "\n", 1, 11)
            self.check("store 1 x 0 " + bad + "\n", 1, 13)
        for bad in ("00", "-0", "1000000000", "01", "w"):
            self.check("get 1 x " + bad + "\n", 1, 9)
        for bad in ("0", "33", "032", "x"):
            self.check("map 1 x " + bad + "\n", 1, 9)
        for bad in ("3", "00", "x", "-1"):
            self.check("protect 1 x " + bad + "\n", 1, 13)
        for bad in ("0", "9", "x", "08"):
            self.check("pass 1 x " + bad + "\n", 1, 10)
        self.assertEqual(parse_requests("get 1 x 0\nget 1 x 999999999\n"), [("get", 1, "x", 0), ("get", 1, "x", MOST)])
        self.assertEqual(parse_requests("take 1 x 999999999 536870912\n"), [("take", 1, "x", MOST, 536870912)])

    def test_names(self):
        for bad in ("abcde", "A", "aB", "x1", "1", "x-", "_", "'x'"):
            self.check("free 8 " + bad + "\n", 1, 8)
            self.check("take 1 " + bad + " 5\n", 1, 8)

    def test_words_too_many(self):
        self.check("tick 1\n", 1, 6)
        self.check("tick tick\n", 1, 6)
        self.check("settle x y\n", 1, 8)
        self.check("take 1 x 5 1 1\n", 1, 14)
        self.check("take 1 x 5 3 1\n", 1, 12)
        self.check("free 1 x 5\n", 1, 10)
        self.check("get 1 abcd 5 6 7\n", 1, 14)

    def test_words_missing(self):
        for text in ("take", "take 1", "take 1 x", "resize 1 x", "free 1", "pass 1 x", "put 1 x 5", "get 1 x", "map 1 x",
                     "unmap 1", "share 1 x", "protect 1 x", "store 1 x 1", "load 1 x", "out 1", "out"):
            self.check(text + "\n", 1, len(text) + 1)
            self.check("tick\n" + text + "\ntick\n", 2, len(text) + 1)
            self.check(text, 1, len(text) + 1)
        # A wrong word comes before the missing ones.
        self.check("put 9\n", 1, 5)
        self.check("put 1 X\n", 1, 7)

    def test_no_newline_at_the_end(self):
        self.check("tick", 1, 5)
        self.check("tick\nsettle", 2, 7)
        self.check("take 1 x 5", 1, 11)
        self.check("take 1 x 5 1", 1, 13)
        self.check("tick\ntake 1 X 5", 2, 8)
        self.check("tick\n ", 2, 1)
        self.check("tock", 1, 1)
        self.check("tick x", 1, 6)

    def test_first_line_counts(self):
        self.check("tick\ntake 1 x\nbad\n", 2, 9)
        self.check("bad\ntick", 1, 1)
        text = "tick\n" * 399
        self.check(text + "tick 1\n", 400, 6)


if __name__ == "__main__":
    unittest.main()
