"""Points 2 to 4 and the interface of basics.py."""

import unittest

from allgivenback import basics
from allgivenback.basics import (
    BadLine, BadValue, Broken, Cut, Fault, NoRoom, NotHeld, StoreError, Unknown, drawer_of, is_holder, is_user,
    is_whole)
from tests.helpers import HUGE, NO_INTEGERS, ODD_VALUES, check_wrong, no_integer_in

REFUSALS = (
    (BadValue, ("parameter",), ("size",)),
    (Broken, ("place", "found", "due"), (3, 7, 0)),
    (Unknown, ("parameter",), ("start",)),
    (NotHeld, ("place", "found"), (4, 2)),
    (Fault, ("kind", "place"), ("unmapped", 16)),
    (NoRoom, ("paper",), (("region", 3),)),
    (Cut, ("needed", "left"), (12, 3)),
    (BadLine, ("line", "column"), (1, 5)),
)


class RefusalTest(unittest.TestCase):
    def test_fields_and_told(self):
        for refusal, names, values in REFUSALS:
            error = refusal(*values)
            self.assertEqual(tuple(getattr(error, name) for name in names), values)
            self.assertEqual(error.told, (refusal.__name__, values))
            self.assertIs(type(error.told), tuple)
            self.assertIs(type(error.told[1]), tuple)

    def test_fields_by_name(self):
        for refusal, names, values in REFUSALS:
            self.assertEqual(refusal(**dict(zip(names, values))).told, (refusal.__name__, values))

    def test_examples(self):
        self.assertEqual(NotHeld(4, 2).told, ("NotHeld", (4, 2)))
        self.assertEqual(NoRoom(("region", 3)).told, ("NoRoom", (("region", 3),)))

    def test_constructors_check_nothing(self):
        for refusal, names, _ in REFUSALS:
            for odd in (None, True, [1], "text", HUGE):
                values = (odd,) * len(names)
                self.assertEqual(refusal(*values).told, (refusal.__name__, values))

    def test_families(self):
        self.assertTrue(issubclass(StoreError, ValueError))
        for refusal, _, _ in REFUSALS:
            self.assertTrue(issubclass(refusal, StoreError))
            for other, _, _ in REFUSALS:
                self.assertEqual(issubclass(refusal, other), refusal is other)

    def test_store_error_has_no_fields(self):
        self.assertEqual(vars(StoreError("x")), {})

    def test_caught_as_value_error(self):
        for refusal, _, values in REFUSALS:
            with self.assertRaises(ValueError):
                raise refusal(*values)


class ConstantTest(unittest.TestCase):
    def test_each_by_its_number(self):
        due = {
            "MOST_WORD": 65535, "NOBODY": 0, "MAP": 21, "SLAB": 22, "EXTENT": 23, "HEAP": 24, "REGION": 25,
            "HANDLE": 26, "MAPPED": 27, "NODE": 28, "MAGIC": 4711, "RED": 60001, "POISON": 60002}
        for name, number in due.items():
            self.assertEqual(getattr(basics, name), number, name)
            self.assertIs(type(getattr(basics, name)), int, name)


class JudgeTest(unittest.TestCase):
    def test_is_whole(self):
        for value in (0, 1, -1, 10 ** 9, HUGE, -HUGE):
            self.assertIs(is_whole(value), True)
        for value in NO_INTEGERS:
            self.assertIs(is_whole(value), False, value)

    def test_is_user(self):
        for value in range(-40, 300):
            self.assertIs(is_user(value), value in range(1, 9), value)

    def test_is_holder(self):
        due = [0, *range(1, 9), *range(11, 19), *range(21, 29)]
        for value in range(-40, 300):
            self.assertIs(is_holder(value), value in due, value)

    def test_any_value_is_judged(self):
        for judge in (is_user, is_holder):
            for value in NO_INTEGERS + (HUGE, -HUGE):
                self.assertIs(judge(value), False, value)
        for judge in (is_whole, is_user, is_holder):
            for value in ODD_VALUES:
                self.assertIn(judge(value), (True, False))
                self.assertIs(type(judge(value)), bool)


class DrawerTest(unittest.TestCase):
    def test_numbers(self):
        self.assertEqual([drawer_of(user) for user in range(1, 9)], list(range(11, 19)))

    def test_wrong(self):
        check_wrong(self, drawer_of, {"user": 1}, {"user": no_integer_in(1, 8)})


if __name__ == "__main__":
    unittest.main()
