import itertools
import random
import sys
import unittest

from beatferry.apart import spoilt
from beatferry.blame import explains, least_lots, surely_bad
from beatferry.lies import by_way, sure, wrong
from beatferry.silence import letters
from helper import check_asking, same, written_way

GREAT = 999999937


def written_explains(q, books, lot, source):
    """As point 15 words it."""
    if source in lot:
        return False
    for hand, trees in books:
        if hand not in lot:
            for j in trees:
                if not set(written_way(q, hand, j, source)[1:-1]) & set(lot):
                    return False
    return True


def searched(q, books, most, source):
    """All lots of at most so many hands that explain, by a search over all; the source is let in, too."""
    return [
        lot for size in range(most + 1) for lot in itertools.combinations(range(2 ** q), size)
        if written_explains(q, books, lot, source)]


def written_least(lots):
    """Of all lots that explain those none of which explains without one of its hands."""
    there = set(lots)
    least = [
        lot for lot in lots
        if not any(tuple(one for one in lot if one != hand) in there for hand in lot)]
    return tuple(sorted(least))


def written_surely(lots):
    if not lots:
        return None
    return tuple(sorted(set(lots[0]).intersection(*lots)))


def drawn_books(chance, q, source):
    """Books of few or many hands, with few or many trees."""
    hands = [hand for hand in range(2 ** q) if hand != source]
    some = sorted(chance.sample(hands, chance.randrange(len(hands) + 1)))
    most = chance.choice((0, 1, 1, 2, q))
    return tuple(
        (hand, tuple(sorted(chance.sample(range(q), chance.randrange(min(q, most) + 1))))) for hand in some)


def planted_books(chance, q, source, lot):
    """Books that the lot explains: of true hands trees that it spoils, of its own any."""
    books = []
    for hand in range(2 ** q):
        if hand != source and chance.randrange(4):
            trees = range(q) if hand in lot else spoilt(q, hand, lot, source=source)
            books.append((hand, tuple(j for j in trees if chance.randrange(3))))
    return tuple(books)


def with_books(chance, p, q, source, lot, k, rounds):
    """What hands hear of rows while the lot lies, as books."""
    rows = tuple(tuple(chance.randrange(p) for _ in range(k)) for _ in range(rounds))
    sent = letters(p, q, rows)
    faults = tuple(
        (one, bit, beat, chance.choice((None, 0, chance.randrange(p))))
        for one in lot for bit in range(q) for beat in chance.sample(range(len(sent) + q), 2))
    books = []
    for hand in range(2 ** q):
        if hand != source:
            heard = [by_way(p, q, hand, i, number, faults, source=source) for i, number in enumerate(sent)]
            told = [wrong(p, k, tuple(heard[a * q:a * q + q])) for a in range(rounds)]
            books.append((hand, tuple(sorted({j for trees in told if trees is not None for j in trees}))))
    return tuple(books)


class Explains(unittest.TestCase):
    def check(self, q, books, lot, source):
        want = written_explains(q, books, lot, source)
        same(self, explains(q, books, lot, source=source), want, q, books, lot, source)

    def test_by_hand(self):
        # The ways to 7 are (0, 1, 3, 7), (0, 2, 6, 7), (0, 4, 5, 7).
        books = ((7, (0,)),)
        for lot in ((1,), (3,), (7,), (1, 2), (2, 3), (4, 5, 7)):
            same(self, explains(3, books, lot), True, lot)
        for lot in ((), (2,), (4,), (5,), (6,), (2, 4, 5, 6)):
            same(self, explains(3, books, lot), False, lot)
        same(self, explains(3, ((7, (0, 1)),), (1,)), False)
        same(self, explains(3, ((7, (0, 1)),), (1, 6)), True)
        same(self, explains(3, ((7, (0, 1, 2)),), (7,)), True)
        same(self, explains(3, ((6, (1,)), (7, (0, 1, 2))), (7,)), False)
        same(self, explains(3, ((6, (1,)), (7, (0, 1, 2))), (2, 7)), True)

    def test_no_books_no_trees(self):
        for books in ((), ((1, ()),), ((1, ()), (6, ()))):
            for lot in ((), (1,), (1, 2, 7), (0 + 5,)):
                same(self, explains(3, books, lot), True, books, lot)

    def test_a_lot_with_the_source(self):
        for books in ((), ((1, ()),), ((7, (0,)),)):
            same(self, explains(3, books, (0,)), False, books)
            same(self, explains(3, books, (0, 1, 2, 3, 4, 5, 6, 7)), False, books)
        same(self, explains(3, (), (5,), source=5), False)
        same(self, explains(3, (), (0,), source=5), True)

    def test_hands_across_from_the_source(self):
        # Nobody is between in its own tree: it is bad itself, or wrong is what it accuses.
        same(self, explains(3, ((2, (1,)),), (2,)), True)
        same(self, explains(3, ((2, (1,)),), (1, 3, 4, 5, 6, 7)), False)
        same(self, explains(3, ((2, (0,)),), (1,)), True)
        same(self, explains(3, ((2, (0,)),), (3,)), True)
        same(self, explains(3, ((2, (0,)),), (4, 6)), False)

    def test_every_lot_of_few_hands(self):
        chance = random.Random(151)
        for q in range(1, 4):
            for source in range(2 ** q):
                for _ in range(6):
                    books = drawn_books(chance, q, source)
                    for size in range(2 ** q + 1):
                        for lot in itertools.combinations(range(2 ** q), size):
                            self.check(q, books, lot, source)

    def test_drawn(self):
        chance = random.Random(152)
        for _ in range(300):
            q = chance.randrange(4, 9)
            source = chance.randrange(2 ** q)
            size = chance.choice((0, 1, 2, 3, 10, 2 ** q - 1))
            lot = tuple(sorted(chance.sample(range(2 ** q), size)))
            self.check(q, drawn_books(chance, q, source), lot, source)
            self.check(q, planted_books(chance, q, source, tuple(set(lot) - {source})), lot, source)


class Lots(unittest.TestCase):
    def check(self, q, books, most, source):
        lots = searched(q, books, most, source)
        about = (q, books, most, source)
        same(self, least_lots(q, books, most, source=source), written_least(lots), *about)
        same(self, surely_bad(q, books, most, source=source), written_surely(lots), *about)
        return lots

    def test_by_hand(self):
        books = ((7, (0,)),)
        same(self, least_lots(3, books, 0), ())
        same(self, surely_bad(3, books, 0), None)
        same(self, least_lots(3, books, 1), ((1,), (3,), (7,)))
        same(self, surely_bad(3, books, 1), ())
        same(self, least_lots(3, books, 3), ((1,), (3,), (7,)))
        books = ((5, (0,)), (7, (0,)))
        # The way to 5 in tree 0 is (0, 1, 5): 1 alone, or 5 and one of 3 and 7.
        same(self, least_lots(3, books, 1), ((1,),))
        same(self, surely_bad(3, books, 1), (1,))
        same(self, least_lots(3, books, 2), ((1,), (3, 5), (5, 7)))
        same(self, surely_bad(3, books, 2), ())

    def test_no_books_no_trees(self):
        for books in ((), ((1, ()),), ((3, ()), (6, ()))):
            for most in range(4):
                same(self, least_lots(3, books, most), ((),), books, most)
                same(self, surely_bad(3, books, most), (), books, most)

    def test_one_hand_that_accuses_all(self):
        for hand in range(1, 8):
            books = ((hand, (0, 1, 2)),)
            lots = self.check(3, books, 3, 0)
            self.assertIn((hand,), lots)
            same(self, surely_bad(3, books, 1), (hand,), hand)

    def test_hands_across_accuse_their_own_tree(self):
        for source in (0, 6):
            books = tuple(sorted((source ^ 2 ** j, (j,)) for j in range(3)))
            lot = tuple(hand for hand, _ in books)
            same(self, least_lots(3, books, 3, source=source), (lot,))
            same(self, surely_bad(3, books, 3, source=source), lot)
            same(self, least_lots(3, books, 2, source=source), ())
            same(self, surely_bad(3, books, 2, source=source), None)

    def test_all_accuse_all(self):
        books = tuple((hand, (0, 1, 2)) for hand in range(1, 8))
        for most in range(4):
            self.check(3, books, most, 0)
        books = ((1, (0,)),)
        same(self, least_lots(1, books, 3), ((1,),))
        same(self, surely_bad(1, books, 3), (1,))
        same(self, surely_bad(1, ((0, (0,)),), 1, source=1), (0,))

    def test_few_hands_against_a_search(self):
        chance = random.Random(153)
        seen = set()
        for q in range(1, 4):
            for source in range(2 ** q):
                for _ in range(25):
                    books = drawn_books(chance, q, source)
                    for most in range(4):
                        seen.add(len(self.check(q, books, most, source)) > 0)
        self.assertEqual(seen, {True, False})

    def test_sixteen_hands_against_a_search(self):
        chance = random.Random(154)
        hands = range(16)
        for _ in range(40):
            source = chance.choice(hands)
            lot = tuple(sorted(chance.sample([one for one in hands if one != source], chance.randrange(4))))
            for books in (planted_books(chance, 4, source, lot), drawn_books(chance, 4, source)):
                self.check(4, books, chance.choice((1, 2, 3, 3)), source)

    def test_every_book_of_two_bits(self):
        accused = [(), (0,), (1,), (0, 1)]
        for trees in itertools.product([None, *accused], repeat=3):
            for source in (0, 2):
                hands = [hand for hand in range(4) if hand != source]
                books = tuple((hand, some) for hand, some in zip(hands, trees) if some is not None)
                for most in range(4):
                    self.check(2, books, most, source)

    def test_drawn_of_many_hands(self):
        chance = random.Random(155)
        for _ in range(60):
            q = chance.randrange(5, 9)
            source = chance.randrange(2 ** q)
            others = [one for one in range(2 ** q) if one != source]
            lot = tuple(sorted(chance.sample(others, chance.randrange(1, 4))))
            self.check_planted(q, planted_books(chance, q, source, lot), lot, source)

    def check_planted(self, q, books, lot, source):
        about = (q, books, lot, source)
        lots = least_lots(q, books, 3, source=source)
        self.assertEqual(list(lots), sorted(set(lots)), about)
        for one in lots:
            self.assertLessEqual(len(one), 3, about)
            self.assertTrue(written_explains(q, books, one, source), about)
            for hand in one:
                rest = tuple(other for other in one if other != hand)
                self.assertFalse(written_explains(q, books, rest, source), about)
        # Some least one is within the lot that was planted, and those of few are among those of more.
        self.assertTrue([one for one in lots if set(one) <= set(lot)], about)
        for most in range(3):
            fewer = tuple(one for one in lots if len(one) <= most)
            same(self, least_lots(q, books, most, source=source), fewer, *about)
        same(self, surely_bad(q, books, 3, source=source), written_surely(lots), *about)
        self.assertLessEqual(set(surely_bad(q, books, 3, source=source)), set(lot), about)


class Blame(unittest.TestCase):
    """What 3 (f) says, of what hands hear while others lie."""

    def test_the_bad_ones_explain(self):
        chance = random.Random(156)
        caught = 0
        for _ in range(60):
            q = chance.choice((3, 4, 5, 6))
            p = chance.choice((7, GREAT))
            source = chance.randrange(2 ** q)
            f = chance.randrange((q - 1) // 2 + 1)
            others = [one for one in range(2 ** q) if one != source]
            lot = tuple(sorted(chance.sample(others, f)))
            books = with_books(chance, p, q, source, lot, sure(q, f), 2)
            about = (q, p, source, lot, books)
            for hand, trees in books:
                if hand not in lot:
                    self.assertLessEqual(set(trees), set(spoilt(q, hand, lot, source=source)), about)
            same(self, explains(q, books, lot, source=source), True, *about)
            blamed = surely_bad(q, books, f, source=source)
            self.assertLessEqual(set(blamed), set(lot), about)
            caught += len(blamed)
            if q < 5:
                same(self, blamed, written_surely(searched(q, books, f, source)), *about)
        self.assertTrue(caught)


class Asking(unittest.TestCase):
    def test_by_places_and_by_names(self):
        books = ((5, (0,)), (7, (0,)))
        for lot in ((1,), (2,)):
            check_asking(self, explains, {"q": 3, "books": books, "lot": lot}, source=2)
        for most in range(3):
            check_asking(self, least_lots, {"q": 3, "books": books, "most": most}, source=2)
            check_asking(self, surely_bad, {"q": 3, "books": books, "most": most}, source=2)

    def test_not_more_than_some_thousand_lots(self):
        # Each lot that is tried takes a call or some; all lots of three of 255 hands are 2,731,135.
        everyone = tuple((hand, tuple(range(8))) for hand in range(1, 256))
        far = [tuple((hand, (j,)) for hand in (127, 191, 223)) for j in range(8)]
        chance = random.Random(157)
        some = [planted_books(chance, 8, 0, (1 + at, 100, 200 + at)) for at in range(3)]
        for books in (everyone, *far, *some, ((255, tuple(range(8))),), ((127, (7,)), (191, (6,)), (253, (1,)))):
            for ask in (least_lots, surely_bad):
                self.assertLess(self.calls(lambda: ask(8, books, 3)), 200000, books)

    def calls(self, ask):
        """How many calls of the program's functions that takes."""
        many = 0

        def count(frame, event, arg):
            nonlocal many
            # A comprehension counts as a call under some Pythons, so only functions by name do here.
            many += event == "call" and not frame.f_code.co_name.startswith("<")

        before = sys.getprofile()
        sys.setprofile(count)
        try:
            ask()
        finally:
            sys.setprofile(before)
        return many

    def test_somewhat_beyond_the_limits_raises_nothing(self):
        books = ((3, (0, 8)), (5, ()), (511, (1, 2)))
        explains(9, books, (1, 2, 600))
        least_lots(9, books, 4)
        surely_bad(9, books, 4)
        least_lots(9, books, -1)


if __name__ == "__main__":
    unittest.main()
