"""Points 46 and 47 and the interface of moves.py."""

import itertools
import random
import unittest

from allgivenback.moves import after_moves, all_down, free_rows, is_move, is_no_move, least_move, words_moved
from tests.helpers import HUGE, NO_INTEGERS, ODD_VALUES, bendings, check_wrong, no_integer_in, told_by

NO_ROWS = NO_INTEGERS + (0, 1, "abc", range(3))


def layouts(low, high, most):
    """All layouts of at most so many parcels in a range."""
    yield []
    if most:
        for start in range(low, high):
            for size, pinned in itertools.product(range(1, high - start + 1), (False, True)):
                for rest in layouts(start + size, high, most - 1):
                    yield [(start, size, pinned), *rest]


def all_ways(low, high, parcels):
    """All lists of starts to which the parcels can go, in their order."""
    if not parcels:
        yield []
        return
    (start, size, pinned), rest = parcels[0], parcels[1:]
    for target in ([start] if pinned else range(low, high - size + 1)):
        if low <= target and target + size <= high:
            for after in all_ways(target + size, high, rest):
                yield [target, *after]


def has_window(low, high, parcels, need):
    """True if so many places side by side are free."""
    free = set(range(low, high)) - {place for start, size, _ in parcels for place in range(start, start + size)}
    return any(all(place + k in free for k in range(need)) for place in range(low, high))


def least_words(low, high, parcels):
    """For each need, the fewest words of all ways that free so many places side by side; needs without one are out."""
    least = {}
    for starts in all_ways(low, high, parcels):
        after = [(start, row[1], row[2]) for start, row in zip(starts, parcels)]
        words = sum(row[1] for start, row in zip(starts, parcels) if start != row[0])
        need = 1
        while has_window(low, high, after, need):
            least[need] = min(least.get(need, words), words)
            need += 1
    return least


def plain_gaps(low, high, parcels):
    """The gaps as tuples (start, size)."""
    edges = [low] + [start + size for start, size, _ in parcels]
    ends = [start for start, _, _ in parcels] + [high]
    return [(edge, end - edge) for edge, end in zip(edges, ends)]


def plain_least(low, high, parcels, need):
    """Point 47 word by word: all pairs of gaps."""
    gaps, pairs = plain_gaps(low, high, parcels), []
    for i, j in itertools.combinations_with_replacement(range(len(gaps)), 2):
        between = parcels[i:j]
        if not any(pinned for _, _, pinned in between) and sum(gap[1] for gap in gaps[i:j + 1]) >= need:
            pairs.append((sum(size for _, size, _ in between), i, j))
    if not pairs:
        return None
    _, i, j = min(pairs)
    moves, place = [], gaps[i][0]
    for start, size, _ in parcels[i:j]:
        moves.append((start, place, size))
        place += size
    return (tuple(moves), place)


def plain_rows(low, high, parcels):
    """The free rows of point 47, place by place."""
    rows, first = [], low
    taken = {place for start, size, _ in parcels for place in range(start, start + size)}
    for start, size, pinned in parcels + [(high, 0, True)]:
        if pinned:
            rows.append((first, start, len(set(range(first, start)) - taken)))
            first = start + size
    return tuple(rows)


def random_layout(rng, low, high, count):
    """A layout with about so many parcels."""
    parcels, place = [], low
    for _ in range(count):
        start, size = place + rng.choice((0, 0, 1, 2, 5)), rng.choice((1, 1, 2, 3, 8))
        if start + size > high:
            break
        parcels.append((start, size, rng.random() < 0.15))
        place = start + size
    return parcels


class LeastTest(unittest.TestCase):
    def test_example(self):
        parcels = [(2, 3, False), (8, 4, False), (15, 2, False)]
        self.assertEqual(least_move(0, 20, parcels, 6), (((15, 12, 2),), 14))

    def test_all_ways_of_small_layouts(self):
        for low, high, most in ((0, 6, 3), (3, 8, 4)):
            for parcels in layouts(low, high, most):
                least = least_words(low, high, parcels)
                for need in range(1, high - low + 2):
                    told = least_move(low, high, parcels, need)
                    self.assertEqual(told is None, need not in least)
                    if told is not None:
                        self.assertEqual(words_moved(told[0]), least[need])
                        self.assertIs(is_move(low, high, parcels, need, told), True)
                    rows = free_rows(low, high, parcels)
                    self.assertIs(is_no_move(low, high, parcels, need, rows), need not in least)

    def test_pairs_of_gaps(self):
        for low, high, most in ((0, 7, 3), (2, 7, 4), (0, 0, 1), (5, 6, 1)):
            for parcels in layouts(low, high, most):
                for need in range(1, high - low + 2):
                    self.assertEqual(least_move(low, high, parcels, need), plain_least(low, high, parcels, need))

    def test_random_layouts(self):
        rng = random.Random(47)
        for _ in range(400):
            low = rng.randrange(5)
            high = low + rng.randint(0, 90)
            parcels = random_layout(rng, low, high, rng.randint(0, 16))
            for need in (1, 2, 3, 5, 8, 13, 40):
                told = least_move(low, high, tuple(parcels), need)
                self.assertEqual(told, plain_least(low, high, parcels, need))
                if told is not None:
                    after = after_moves(low, high, parcels, told[0])
                    self.assertTrue(all(start + size <= told[1] or told[1] + need <= start for start, size, _ in after))

    def test_ties(self):
        parcels = [(2, 2, False), (6, 2, False), (10, 2, False)]
        self.assertEqual(least_move(0, 14, parcels, 3), (((2, 0, 2),), 2))
        self.assertEqual(least_move(0, 14, parcels, 2), ((), 0))
        self.assertEqual(least_move(0, 14, parcels, 5), (((2, 0, 2), (6, 2, 2)), 4))
        self.assertEqual(least_move(0, 14, parcels, 8), (((2, 0, 2), (6, 2, 2), (10, 4, 2)), 6))
        self.assertIsNone(least_move(0, 14, parcels, 9))
        parcels[1] = (6, 2, True)
        self.assertIsNone(least_move(0, 14, parcels, 5))
        self.assertEqual(least_move(0, 14, parcels, 4), (((2, 0, 2),), 2))

    def test_no_parcels(self):
        self.assertEqual(least_move(0, 16384, [], 16384), ((), 0))
        self.assertIsNone(least_move(0, 16384, (), 16385))
        self.assertIsNone(least_move(0, 16384, [], 16386))
        self.assertIsNone(least_move(7, 7, [], 1))
        self.assertIsNone(least_move(16384, 16384, [], 1))
        self.assertEqual(least_move(16383, 16384, [], 1), ((), 16383))

    def test_greatest_layout(self):
        parcels = [(40 * k + 1, 1 + k % 30, k % 97 == 96) for k in range(400)]
        for need in (1, 39, 300, 2000, 9999, 16386):
            told = least_move(0, 16384, parcels, need)
            self.assertEqual(told is None, all(row[2] < need for row in free_rows(0, 16384, parcels)))
            if told is not None:
                self.assertIs(is_move(0, 16384, parcels, need, told), True)
        free = [(row[0], row[1], False) for row in parcels]
        moves, gap = least_move(0, 16384, free, 16384 - sum(row[1] for row in free))
        self.assertEqual([len(moves), gap], [400, sum(row[1] for row in free)])
        self.assertEqual(moves, all_down(0, 16384, free))
        self.assertEqual(after_moves(0, 16384, free, moves)[-1][0], gap - free[-1][1])


class DownTest(unittest.TestCase):
    def test_all_down(self):
        parcels = [(2, 3, False), (8, 4, True), (15, 2, False), (18, 1, False)]
        self.assertEqual(all_down(0, 20, parcels), ((2, 0, 3), (15, 12, 2), (18, 14, 1)))
        self.assertEqual(all_down(2, 20, parcels), ((15, 12, 2), (18, 14, 1)))
        self.assertEqual([all_down(0, 5, []), all_down(3, 9, [(3, 6, False)]), all_down(0, 9, [(3, 6, True)])], [
            (), (), ()])

    def test_rows(self):
        parcels = [(2, 3, False), (8, 4, True), (12, 2, True), (18, 1, False)]
        self.assertEqual(free_rows(0, 20, parcels), ((0, 8, 5), (12, 12, 0), (14, 20, 5)))
        self.assertEqual(free_rows(8, 14, parcels[1:3]), ((8, 8, 0), (12, 12, 0), (14, 14, 0)))
        self.assertEqual([free_rows(0, 0, []), free_rows(3, 9, ())], [((0, 0, 0),), ((3, 9, 6),)])

    def test_against_plain_ones(self):
        rng = random.Random(48)
        for _ in range(500):
            low = rng.randrange(5)
            high = low + rng.randint(0, 60)
            parcels = random_layout(rng, low, high, rng.randint(0, 12))
            self.assertEqual(free_rows(low, high, parcels), plain_rows(low, high, parcels))
            moves = all_down(low, high, parcels)
            after, place = after_moves(low, high, parcels, moves), low
            for (start, size, pinned), (old, _, _) in zip(after, parcels):
                self.assertEqual(start, old if pinned else place)
                place = start + size
            self.assertEqual([move[0] for move in moves], [
                old for (start, _, _), (old, _, _) in zip(after, parcels) if start != old])
            self.assertEqual(words_moved(moves), sum(row[1] for row, old in zip(after, parcels) if row != old))


class AfterTest(unittest.TestCase):
    PARCELS = [(2, 3, False), (8, 4, True), (15, 2, False), (18, 1, False)]

    def right(self, parcels, moves, low, high):
        """Point 46 word by word: what after_moves must return, or None."""
        if type(moves) is not tuple:
            return None
        for move in moves:
            if type(move) is not tuple or len(move) != 3 or any(type(part) is not int for part in move):
                return None
        if [move[0] for move in moves] != sorted({move[0] for move in moves}):
            return None
        after = list(parcels)
        for start, target, size in moves:
            if (start, size, False) not in parcels or target == start:
                return None
            after[parcels.index((start, size, False))] = (target, size, False)
        place = low
        for start, size, _ in after:
            if start < place:
                return None
            place = start + size
        return after if place <= high else None

    def test_all_pairs_of_moves(self):
        right = 0
        for targets in itertools.product(range(-1, 21), repeat=3):
            moves = tuple((start, target, size) for (start, size), target in zip(((2, 3), (15, 2), (18, 1)), targets)
                          if target != start)
            due = self.right(self.PARCELS, moves, 0, 20)
            told = after_moves(0, 20, self.PARCELS, moves) if due is not None else told_by(
                after_moves, 0, 20, self.PARCELS, moves)
            self.assertEqual(told, due if due is not None else ("BadValue", ("moves",)))
            right += due is not None
        self.assertGreater(right, 100)

    def test_what_lies_between_does_not_count(self):
        # The first move goes to places that the second parcel leaves only later.
        parcels = [(0, 2, False), (2, 2, False)]
        self.assertEqual(after_moves(0, 9, parcels, ((0, 2, 2), (2, 4, 2))), [(2, 2, False), (4, 2, False)])
        self.assertEqual(told_by(after_moves, 0, 9, parcels, ((0, 2, 2),)), ("BadValue", ("moves",)))
        self.assertEqual(told_by(after_moves, 0, 9, parcels, ((0, 4, 2),)), ("BadValue", ("moves",)))

    def test_bent_moves(self):
        moves = ((2, 0, 3), (15, 13, 2), (18, 15, 1))
        self.assertEqual(after_moves(0, 20, self.PARCELS, moves), [
            (0, 3, False), (8, 4, True), (13, 2, False), (15, 1, False)])
        for odd in bendings(moves) + [
                ((8, 9, 4),), ((2, 2, 3),), ((3, 0, 0),), ((0, 1, 0),), ((2, 0, 3), (2, 1, 3)), ((2, HUGE, 3),),
                ((2, -HUGE, 3),), ((HUGE, 0, 3),), ((2, 0, HUGE),), ((2, 0, True),), ((19, 5, 0),)]:
            due = self.right(self.PARCELS, odd, 0, 20)
            if due is None:
                self.assertEqual(told_by(after_moves, 0, 20, self.PARCELS, odd), ("BadValue", ("moves",)), odd)
            else:
                self.assertEqual(after_moves(0, 20, self.PARCELS, odd), due)
        self.assertEqual(after_moves(0, 20, tuple(self.PARCELS), ()), self.PARCELS)
        for odd in ODD_VALUES:
            if odd != ():
                self.assertEqual(told_by(after_moves, 0, 20, self.PARCELS, odd), ("BadValue", ("moves",)))

    def test_words_moved(self):
        self.assertEqual([words_moved(()), words_moved(((1, 2, 3), (0, 0, 0), (5, 4, HUGE)))], [0, 3 + HUGE])
        good = ((1, 2, 3), (4, 5, 6))
        for odd in ODD_VALUES + ([], [(1, 2, 3)], ((1, 2),), ((1, 2, 3, 4),), ([1, 2, 3],), ((1, 2, -1),), ((-1, 2, 3),),
                                 ((1, -2, 3),), ((1, 2, True),), ((True, 2, 3),), ((1, 2.0, 3),), good + (None,)):
            if odd != ():
                self.assertEqual(told_by(words_moved, odd), ("BadValue", ("moves",)), odd)


class JudgeTest(unittest.TestCase):
    PARCELS = [(2, 3, False), (8, 4, True), (15, 2, False)]

    def test_plans(self):
        for moves in ((), ((2, 0, 3),), ((15, 12, 2),), ((2, 0, 3), (15, 18, 2)), ((15, 13, 2),), ((2, 5, 3),)):
            after = after_moves(0, 20, self.PARCELS, moves)
            taken = {place for start, size, _ in after for place in range(start, start + size)}
            for gap, need in itertools.product(range(-2, 23), range(1, 9)):
                due = all(place in range(20) and place not in taken for place in range(gap, gap + need))
                self.assertIs(is_move(0, 20, self.PARCELS, need, (moves, gap)), due)

    def test_bent_plans(self):
        plan = (((2, 0, 3), (15, 18, 2)), 12)
        self.assertIs(is_move(0, 20, self.PARCELS, 6, plan), True)
        right = AfterTest.right
        judged = {True: 0, False: 0}
        for odd in bendings(plan):
            due = type(odd) is tuple and len(odd) == 2 and type(odd[1]) is int
            if due:
                after = right(self, self.PARCELS, odd[0], 0, 20)
                due = after is not None and odd[1] in range(0, 15) and all(
                    start + size <= odd[1] or odd[1] + 6 <= start for start, size, _ in after)
            self.assertIs(is_move(0, 20, self.PARCELS, 6, odd), due, odd)
            judged[due] += 1
        self.assertGreater(judged[False], 60)
        for odd in ODD_VALUES + (((),), ((), ()), ((), None), ((), HUGE), ((), -HUGE), ((), 12.0), [(), 12]):
            self.assertIs(is_move(0, 20, self.PARCELS, 3, odd), False)
        self.assertIs(is_move(0, 20, self.PARCELS, 3, ((), 12)), True)
        self.assertIs(is_move(0, 20, self.PARCELS, 1, ((), True)), False)

    def test_rows(self):
        rows = free_rows(0, 20, self.PARCELS)
        self.assertEqual(rows, ((0, 8, 5), (12, 20, 6)))
        self.assertIs(is_no_move(0, 20, self.PARCELS, 7, rows), True)
        self.assertIs(is_no_move(0, 20, self.PARCELS, 6, rows), False)
        self.assertIs(is_no_move(0, 20, self.PARCELS, 5, rows), False)
        for odd in bendings(rows):
            self.assertIs(is_no_move(0, 20, self.PARCELS, 7, odd), False, odd)
        for odd in ODD_VALUES:
            self.assertIs(is_no_move(0, 20, self.PARCELS, 7, odd), False)
        self.assertIs(is_no_move(1, 1, [], 1, ((1, 1, 0),)), True)
        self.assertIs(is_no_move(1, 1, [], 1, ((True, 1, 0),)), False)
        self.assertIs(is_no_move(1, 1, [], 1, ((1, 1, False),)), False)


class WrongTest(unittest.TestCase):
    def test_wrong(self):
        parcels = [(2, 3, False), (8, 4, True)]
        bent = [[list(parcels[0])], [(2, 3)], [(2, 3, False, 0)], [(2, 3, 0)], [(2, 3, None)], [(2, 0, False)],
                [(2, -1, False)], [(0, 3, False)], [(-1, 3, False)], [(18, 3, False)], [(2, HUGE, False)],
                [(HUGE, 1, True)], parcels[::-1], parcels + [(11, 2, False)], parcels + [(12, 9, False)], [None],
                parcels * 2, [(2, 3, False), (4, 1, False)], {(2, 3, False): 1}, iter(parcels),
                [(k, 1, False) for k in range(1, 402)]]
        bent += [[(odd, 3, False)] for odd in NO_INTEGERS] + [[(2, odd, False)] for odd in NO_INTEGERS]
        good = {"low": 1, "high": 20, "parcels": parcels, "need": 3}
        bad = {
            "low": no_integer_in(0, 16384), "high": (0, 16385) + no_integer_in(1, 16384),
            "parcels": tuple(bent) + tuple(value for value in NO_ROWS if value not in ((), [])),
            "need": no_integer_in(1, 16386)}
        check_wrong(self, least_move, good, bad)
        three = {name: good[name] for name in ("low", "high", "parcels")}
        check_wrong(self, all_down, three, bad)
        check_wrong(self, free_rows, three, bad)
        for moves in ((), ((2, 1, 3),), None):
            check_wrong(self, after_moves, {**three, "moves": moves}, bad)
            check_wrong(self, is_move, {**good, "plan": moves}, bad)
            check_wrong(self, is_no_move, {**good, "rows": moves}, bad)
        self.assertEqual(told_by(after_moves, 1, 20, bent[0], None), ("BadValue", ("parcels",)))

    def test_edges(self):
        most = [(k, 1, k % 2 == 0) for k in range(400)]
        self.assertEqual(all_down(0, 16384, most), ())
        self.assertEqual(told_by(all_down, 0, 16384, most + [(400, 1, False)]), ("BadValue", ("parcels",)))
        self.assertEqual(len(free_rows(0, 400, most)), 201)
        self.assertIsNone(least_move(0, 400, most, 1))
        self.assertEqual(least_move(0, 401, most, 1), ((), 400))
        self.assertEqual(told_by(free_rows, 0, 399, most), ("BadValue", ("parcels",)))


if __name__ == "__main__":
    unittest.main()
