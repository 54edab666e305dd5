import itertools
import random
import unittest

from beatferry.apart import spoilt
from beatferry.lies import by_way, decoded, sure, wrong
from beatferry.silence import came, letters
from helper import (
    check_asking, counted, drawn, drawn_hand, same, small, written_crossed, written_value, written_way)

GREAT = 999999937


def searched(p, k, heard, rows_values):
    """The row of point 13 by a search over all rows, None where there is none."""
    there = [j for j, letter in enumerate(heard) if letter is not None]
    if len(there) < k:
        return None
    most = (len(there) - k) // 2
    found = [row for row, told in rows_values if sum(told[j] != heard[j] for j in there) <= most]
    if len(found) > 1:
        raise ValueError("more than one")
    return found[0] if found else None


def all_rows(p, k, trees):
    rows = itertools.product(range(p), repeat=k)
    return [(row, tuple(written_value(p, row, j + 1) for j in range(trees))) for row in rows]


def spoiled(chance, p, told, missing, otherwise):
    """What was told with so many left out and so many otherwise."""
    heard = list(told)
    trees = chance.sample(range(len(told)), missing + otherwise)
    for j in trees[:missing]:
        heard[j] = None
    for j in trees[missing:]:
        heard[j] = (heard[j] + chance.randrange(1, p)) % p
    return tuple(heard), tuple(sorted(trees))


def written_by_way(p, q, hand, i, number, faults, source):
    """Walked along the way, a beat a bit, with the faults as point 13 words them."""
    hands = written_way(q, hand, i % q, source)
    now, t = number, i - 1
    for at, k in enumerate(written_crossed(q, hand, i % q, source)):
        t += 1
        while t % q != k:
            t += 1
        latest = None
        for fault in faults:
            if fault[0] == hands[at] and fault[1] == k and fault[2] <= t:
                if latest is None or fault[2] > latest[2]:
                    latest = fault
        if latest is not None:
            more = latest[3]
            if more is None:
                now = None
            elif more != 0:
                now = more if now is None else (now + more) % p
    return now


def drawn_faults(chance, p, q, hand, i, source, many):
    """Faults mostly of hands of the way, by its bits, about its beats; none of the source."""
    near = [(one, k) for one, k in zip(written_way(q, hand, i % q, source), written_crossed(q, hand, i % q, source))]
    faults = {}
    for _ in range(many):
        one, k = chance.choice(near)
        if chance.randrange(4) == 0:
            k = chance.randrange(q)
        if chance.randrange(6) == 0:
            one = drawn_hand(chance, q)
        beat = chance.choice((0, i, max(0, i + chance.randrange(-q, 2 * q)), chance.randrange(2 * i + 1)))
        if one != source:
            faults[one, k, beat] = chance.choice((None, 0, chance.randrange(p), chance.randrange(1, p)))
    some = [(*key, more) for key, more in faults.items()]
    chance.shuffle(some)
    return tuple(some)


class Decoded(unittest.TestCase):
    def check(self, p, k, heard, want):
        same(self, decoded(p, k, heard), want, p, k, heard)
        trees = None
        if want is not None:
            trees = tuple(j for j, letter in enumerate(heard) if letter != written_value(p, want, j + 1))
        same(self, wrong(p, k, heard), trees, p, k, heard)

    def test_by_hand(self):
        # Of the row (1, 2) the letters are 3, 5, 0, 2 by 7.
        same(self, decoded(7, 2, (3, 5, 0, 2)), (1, 2))
        same(self, wrong(7, 2, (3, 5, 0, 2)), ())
        same(self, decoded(7, 2, (3, 6, 0, 2)), (1, 2))
        same(self, wrong(7, 2, (3, 6, 0, 2)), (1,))
        same(self, decoded(7, 2, (3, None, 0, 2)), (1, 2))
        same(self, wrong(7, 2, (3, None, 0, 2)), (1,))
        same(self, decoded(7, 2, (3, None, None, 2)), (1, 2))
        same(self, wrong(7, 2, (3, None, None, 2)), (1, 2))
        same(self, decoded(7, 2, (3, None, 1, 2)), None)
        same(self, wrong(7, 2, (3, None, 1, 2)), None)
        same(self, decoded(7, 2, (3, None, None, None)), None)
        same(self, wrong(7, 2, (3, None, None, None)), None)

    def test_rows_of_one(self):
        same(self, decoded(7, 1, (4,)), (4,))
        same(self, decoded(7, 1, (None,)), None)
        same(self, decoded(7, 1, (4, 5)), None)
        same(self, decoded(7, 1, (4, 4)), (4,))
        same(self, decoded(7, 1, (4, 5, 4)), (4,))
        same(self, wrong(7, 1, (4, 5, 4)), (1,))
        same(self, decoded(7, 1, (4, 5, 6)), None)
        same(self, decoded(7, 1, (4, 5, 4, 5)), None)
        same(self, decoded(7, 1, (0, 0, None, 0, 3)), (0,))
        same(self, decoded(2, 1, (1,)), (1,))

    def test_nothing_but_0(self):
        same(self, decoded(7, 3, (0, 0, 0, 0)), (0, 0, 0))
        same(self, decoded(7, 2, (0, 0, 5, 0)), (0, 0))
        same(self, wrong(7, 2, (0, 0, 5, 0)), (2,))

    def test_more_numbers_than_trees(self):
        same(self, decoded(7, 4, (0, 1, 2)), None)
        same(self, wrong(7, 60, (0, 1, 2)), None)

    def test_all_that_can_be_heard_of_few_trees(self):
        for p, trees in ((2, 1), (3, 1), (3, 2), (5, 3), (5, 4)):
            for k in range(1, trees + 2):
                rows_values = all_rows(p, k, trees) if k <= trees else []
                for heard in itertools.product((None, *range(p)), repeat=trees):
                    self.check(p, k, heard, searched(p, k, heard, rows_values))

    def test_drawn_against_a_search(self):
        chance = random.Random(91)
        for p, trees, k in (
                (7, 5, 1), (7, 5, 2), (7, 6, 2), (7, 6, 3), (11, 7, 1), (11, 9, 3), (13, 12, 2), (11, 6, 3)):
            rows_values = all_rows(p, k, trees)
            for _ in range(60):
                told = chance.choice(rows_values)[1]
                missing = chance.randrange(trees + 1)
                otherwise = chance.randrange(min(trees - missing, (trees - k) // 2 + 2) + 1)
                heard = spoiled(chance, p, told, missing, otherwise)[0]
                self.check(p, k, heard, searched(p, k, heard, rows_values))
            for _ in range(20):
                heard = tuple(chance.choice((None, chance.randrange(p), chance.randrange(p))) for _ in range(trees))
                self.check(p, k, heard, searched(p, k, heard, rows_values))

    def test_up_to_what_can_be_borne(self):
        chance = random.Random(92)
        for trees in range(1, 61):
            for p in (61, GREAT):
                for k in {1, 2, trees // 3, trees // 2, trees - 1, trees, chance.randrange(1, trees + 1)}:
                    if 1 <= k <= trees:
                        self.check_borne(chance, p, k, trees)

    def check_borne(self, chance, p, k, trees):
        row = tuple(chance.randrange(p) for _ in range(k))
        if chance.randrange(3) == 0:
            row = row[:chance.randrange(k)]
            row += (0,) * (k - len(row))
        told = tuple(written_value(p, row, j + 1) for j in range(trees))
        missing = chance.choice((0, trees - k, chance.randrange(trees - k + 1)))
        most = (trees - missing - k) // 2
        heard, at = spoiled(chance, p, told, missing, most)
        same(self, decoded(p, k, heard), row, p, k, heard)
        same(self, wrong(p, k, heard), at, p, k, heard)

    def test_beyond_what_can_be_borne(self):
        chance = random.Random(93)
        for trees in (2, 3, 5, 10, 30, 59, 60):
            for k in {1, 2, trees // 2, trees - 1}:
                if not 1 <= k < trees:
                    continue
                row = tuple(chance.randrange(GREAT) for _ in range(k))
                told = tuple(written_value(GREAT, row, j + 1) for j in range(trees))
                most = (trees - k) // 2
                heard = spoiled(chance, GREAT, told, 0, most + 1)[0]
                got = decoded(GREAT, k, heard)
                # It may be another row's by chance, but never this one's.
                self.assertNotEqual(got, row, (k, heard))
                if got is not None:
                    unlike = [j for j in range(trees) if written_value(GREAT, got, j + 1) != heard[j]]
                    self.assertLessEqual(len(unlike), most, (k, heard))
                few = spoiled(chance, GREAT, told, trees - k + 1, 0)[0]
                same(self, decoded(GREAT, k, few), None, k, few)
                same(self, wrong(GREAT, k, few), None, k, few)

    def test_between_two_rows(self):
        # As near to the one as to the other, so to none near enough.
        for trees, k in ((4, 2), (6, 2), (10, 4), (60, 2)):
            row, other = (1,) * k, (2,) * k
            told = [written_value(GREAT, row, j + 1) for j in range(trees)]
            others = [written_value(GREAT, other, j + 1) for j in range(trees)]
            half = tuple(told[:trees // 2] + others[trees // 2:])
            same(self, decoded(GREAT, k, half), None, trees, k)


class Sure(unittest.TestCase):
    def test_each(self):
        same(self, [sure(5, f) for f in range(5)], [5, 3, 1, 0, 0])
        same(self, [sure(4, f) for f in range(4)], [4, 2, 0, 0])
        for q in range(1, 61):
            for f in (0, 1, q // 2, q, 10 ** 18):
                same(self, sure(q, f), q - 2 * f if 2 * f < q else 0, q, f)


class ByWay(unittest.TestCase):
    def asked(self, hand, i, number, faults, p=7, q=3, source=0):
        return by_way(p, q, hand, i, number, faults, source=source)

    def test_no_fault(self):
        for q, source, hand in small(3):
            for i in (0, 1, 5, 10 ** 18 - 1):
                same(self, by_way(7, q, hand, i, 4, (), source=source), 4, q, hand, source, i)

    def test_by_hand(self):
        # To hand 7 letter 3 goes by tree 0: from 0 to 1 at beat 3, from 1 to 3 at beat 4, from 3 to 7 at beat 5.
        same(self, self.asked(7, 3, 4, ((1, 1, 4, 2),)), 6)
        same(self, self.asked(7, 3, 4, ((1, 1, 0, 5),)), 2)
        same(self, self.asked(7, 3, 4, ((1, 1, 5, 2),)), 4)
        same(self, self.asked(7, 3, 4, ((1, 2, 0, 2),)), 4)
        same(self, self.asked(7, 3, 4, ((5, 1, 0, 2), (7, 2, 0, 3), (2, 0, 0, 1))), 4)
        same(self, self.asked(7, 3, 4, ((3, 2, 5, None),)), None)
        same(self, self.asked(7, 3, 4, ((3, 2, 6, None),)), 4)
        same(self, self.asked(7, 3, 4, ((1, 1, 0, 2), (3, 2, 0, 3))), 2)
        same(self, self.asked(7, 3, 4, ((3, 2, 0, 3), (1, 1, 0, 2))), 2)

    def test_nothing_to_tell(self):
        same(self, self.asked(7, 3, 4, ((1, 1, 0, None), (3, 2, 0, 3))), 3)
        same(self, self.asked(7, 3, 4, ((1, 1, 0, None), (3, 2, 0, 0))), None)
        same(self, self.asked(7, 3, 4, ((1, 1, 0, None), (3, 2, 0, None))), None)
        same(self, self.asked(7, 3, 4, ((1, 1, 0, 3), (3, 2, 0, None))), None)

    def test_more_of_0(self):
        same(self, self.asked(7, 3, 4, ((1, 1, 0, 0), (3, 2, 0, 0))), 4)
        same(self, self.asked(7, 3, 4, ((1, 1, 0, 2), (1, 1, 4, 0))), 4)
        same(self, self.asked(7, 3, 4, ((1, 1, 0, None), (1, 1, 4, 0))), 4)
        same(self, self.asked(7, 3, 4, ((1, 1, 0, 3),)), 0)

    def test_the_greatest_beat_by_then_holds(self):
        several = ((1, 1, 2, 2), (1, 1, 0, 1), (1, 1, 4, 3), (1, 1, 5, 5))
        for faults in itertools.permutations(several):
            same(self, self.asked(7, 3, 0, faults), 3, faults)
            same(self, self.asked(7, 0, 0, faults), 1, faults)
            same(self, self.asked(7, 6, 0, faults), 5, faults)

    def test_there_and_back(self):
        # From 0 to 2 at beat 4, back at beat 7.
        same(self, self.asked(0, 4, 4, ()), 4)
        same(self, self.asked(0, 4, 4, ((2, 1, 7, 2),)), 6)
        same(self, self.asked(0, 4, 4, ((2, 1, 8, 2),)), 4)
        same(self, self.asked(0, 4, 4, ((2, 1, 0, None),)), None)
        same(self, self.asked(0, 4, 4, ((2, 0, 0, None), (1, 1, 0, 3))), 4)
        same(self, self.asked(5, 4, 4, ((7, 1, 7, 2),), source=5), 6)
        same(self, by_way(2, 1, 0, 9, 1, ((1, 0, 10, 1),)), 0)
        same(self, by_way(2, 1, 1, 9, 1, ((1, 0, 0, 1),)), 1)

    def test_the_tree_s_bit_once_more(self):
        # To hand 6 by tree 0: from 0 to 1 at beat 0, to 3 at beat 1, to 7 at beat 2, to 6 at beat 3.
        same(self, self.asked(6, 0, 4, ((7, 0, 3, 2),)), 6)
        same(self, self.asked(6, 0, 4, ((7, 0, 4, 2),)), 4)
        same(self, self.asked(6, 0, 4, ((1, 1, 1, 1), (3, 2, 2, 1), (7, 0, 3, 1))), 0)

    def test_drawn(self):
        chance = random.Random(94)
        told = set()
        for q, source, hand in itertools.chain(small(4), drawn(94, 600)):
            for _ in range(2):
                p = 61 if q > 4 else chance.choice((5, 61, GREAT))
                i = chance.choice((0, chance.randrange(4 * q), chance.randrange(10 ** 18)))
                number = chance.randrange(p)
                faults = drawn_faults(chance, p, q, hand, i, source, chance.randrange(12))
                want = written_by_way(p, q, hand, i, number, faults, source)
                told.add(want if want in (None, number) else "otherwise")
                got = by_way(p, q, hand, i, number, faults, source=source)
                same(self, got, want, p, q, hand, i, number, faults, source)
        self.assertTrue({None, "otherwise"} <= told)

    def test_silent_hands_as_came_tells(self):
        chance = random.Random(95)
        for q, source, hand in small(4):
            others = [one for one in range(2 ** q) if one != source]
            lot = tuple(sorted(chance.sample(others, chance.randrange(min(4, len(others) + 1)))))
            faults = tuple((one, k, 0, None) for one in lot for k in range(q))
            got = tuple(j for j in range(q) if by_way(61, q, hand, j, 5, faults, source=source) is not None)
            same(self, got, came(q, hand, lot, source=source), q, hand, lot, source)


class WhicheverLie(unittest.TestCase):
    """What 3 (e) says: each other hand tells the row."""

    def test_lying_hands(self):
        chance = random.Random(96)
        for _ in range(120):
            q = chance.choice((2, 3, 4, 5, 6))
            p = chance.choice((7, 61, GREAT))
            source = chance.randrange(2 ** q)
            f = chance.randrange((q - 1) // 2 + 1)
            lot = chance.sample([one for one in range(2 ** q) if one != source], f)
            k = sure(q, f)
            row = tuple(chance.randrange(p) for _ in range(k))
            told = letters(p, q, (row,))
            faults = tuple(
                (one, bit, beat, chance.choice((None, chance.randrange(p))))
                for one in lot for bit in range(q) for beat in chance.sample(range(2 * q), 2))
            for hand in range(2 ** q):
                heard = tuple(by_way(p, q, hand, j, told[j], faults, source=source) for j in range(q))
                if hand not in lot and hand != source:
                    same(self, decoded(p, k, heard), row, p, q, hand, faults, source)
                    accused = set(wrong(p, k, heard))
                    self.assertLessEqual(accused, set(spoilt(q, hand, tuple(sorted(lot)), source=source)))

    def test_whatever_they_tell(self):
        chance = random.Random(97)
        for q, source, hand in drawn(97, 240):
            if hand == source:
                continue
            f = chance.randrange((q - 1) // 2 + 1)
            near = [one for j in range(q) for one in written_way(q, hand, j, source)[1:-1]]
            lot = tuple(sorted({chance.choice(near) for _ in range(f)})) if near else ()
            k = sure(q, f)
            row = tuple(chance.randrange(GREAT) for _ in range(k))
            heard = list(letters(GREAT, q, (row,)))
            for j in spoilt(q, hand, lot, source=source):
                heard[j] = chance.choice((None, 0, chance.randrange(GREAT)))
            same(self, decoded(GREAT, k, tuple(heard)), row, q, hand, lot, source)


class Asking(unittest.TestCase):
    def test_by_places_and_by_names(self):
        for heard in ((3, 6, 0, 2), (3, None, 1, 2)):
            check_asking(self, decoded, {"p": 7, "k": 2, "heard": heard})
            check_asking(self, wrong, {"p": 7, "k": 2, "heard": heard})
        check_asking(self, sure, {"q": 7, "f": 2})
        faults = ((1, 1, 0, 2), (3, 2, 0, None), (4, 0, 2, 1))
        for hand in (0, 5, 7):
            for i in (3, 4):
                named = {"p": 7, "q": 3, "hand": hand, "i": i, "number": 4, "faults": faults}
                check_asking(self, by_way, named, source=5)

    def test_few_steps(self):
        chance = random.Random(98)
        for k in (1, 2, 20, 30, 45, 58, 60):
            row = tuple(chance.randrange(GREAT) for _ in range(k))
            heard = spoiled(chance, GREAT, letters(GREAT, 60, (row,)), 0, (60 - k) // 2)[0]
            junk = tuple(chance.randrange(GREAT) for _ in range(60))
            for some in (heard, junk):
                counted(lambda: decoded(GREAT, k, some), 200000)
                counted(lambda: wrong(GREAT, k, some), 200000)
        everyone = 2 ** 60 - 1
        faults = tuple((2 ** (k + 1) - 1, k + 1, 5, 3) for k in range(59))
        same(self, counted(lambda: by_way(GREAT, 60, everyone, 600, 0, faults), 20000), 59 * 3)

    def test_somewhat_beyond_the_limits_raises_nothing(self):
        row = tuple(range(1, 63))
        same(self, decoded(GREAT, 62, letters(GREAT, 70, (row,))), row)
        same(self, wrong(GREAT, 62, letters(GREAT, 70, (row,))), ())
        same(self, decoded(7, 1, ()), None)
        same(self, by_way(GREAT, 64, 2 ** 64 - 1, 10 ** 20, 5, ((2 ** 64, 64, 10 ** 20, 1),)), 5)


if __name__ == "__main__":
    unittest.main()
