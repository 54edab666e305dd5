import random
import unittest

from beatferry.blame import explains, surely_bad
from beatferry.errors import Bad, BadHouse, BadRows, Busy, Idle, NoBit, NoHand, NoNumber
from beatferry.house import House
from beatferry.lies import by_way, decoded, sure, wrong
from beatferry.silence import letters, tellable
from helper import WalkedHouse, check_refused, mutants, oddities, same, written_value

GREAT = 999999937
METHODS = (
    "hands tell silence lie mend step beat source heard rows bad books blamed copy __init__ __eq__".split())


def is_number(thing):
    return type(thing) is int


def small_primes():
    return [n for n in range(2, 100) if all(n % by for by in range(2, n))]


def drawn_rows(chance, p, k, many):
    return tuple(tuple(chance.randrange(p) for _ in range(k)) for _ in range(many))


def everything(house):
    """All that a house tells."""
    hands = range(house.hands())
    return (
        house.hands(), house.beat(), house.source(), house.bad(), house.books(),
        tuple(house.heard(hand) for hand in hands), tuple(house.rows(hand) for hand in hands),
        tuple(house.blamed(most) for most in (0, 1, 2)))


def to_end(house):
    while house.beat() < len(house.heard(0)) + house.hands().bit_length() - 1:
        house.step()


def ended(q, p, k, source, rows):
    house = House(q, p, k)
    house.tell(source, rows)
    to_end(house)
    return house


class Made(unittest.TestCase):
    def written(self, q, p, k):
        """The first of these that isn't so, None where all are."""
        if not is_number(q) or not 1 <= q <= 6:
            return (q,)
        if not is_number(p) or not q < p < 10 ** 9 or any(p % by == 0 for by in range(2, p)):
            return (p,)
        if not is_number(k) or not 1 <= k <= q:
            return (k,)
        return None

    def check(self, q, p, k):
        want = self.written(q, p, k)
        if want is None:
            same(self, House(q, p, k).hands(), 2 ** q)
        else:
            check_refused(self, BadHouse, lambda: House(q, p, k), *want)

    def test_numbers(self):
        for q in range(-2, 9):
            for p in range(-3, 30):
                for k in range(-2, 9):
                    self.check(q, p, k)

    def test_primes(self):
        for p in small_primes():
            for q in range(1, 7):
                self.check(q, p, 1)
        for p in (999999937, 999999893):
            same(self, House(6, p, 6).hands(), 64)
        for p in (1000000007, 10 ** 9, 999999938, 999999936, 561, 1105, 10 ** 18, -7, 25326001, 2 ** 61 - 1):
            check_refused(self, BadHouse, lambda: House(3, p, 2), p)

    def test_of_anything(self):
        for odd in oddities():
            if not is_number(odd):
                check_refused(self, BadHouse, lambda: House(odd, 7, 2), odd)
                check_refused(self, BadHouse, lambda: House(3, odd, 2), odd)
                check_refused(self, BadHouse, lambda: House(3, 7, odd), odd)
                for other in oddities():
                    check_refused(self, BadHouse, lambda: House(odd, other, other), odd)
                    if not is_number(other):
                        check_refused(self, BadHouse, lambda: House(3, odd, other), odd)

    def test_the_first_that_is_not_so(self):
        check_refused(self, BadHouse, lambda: House(7, 6, 9), 7)
        check_refused(self, BadHouse, lambda: House(6, 6, 9), 6)
        check_refused(self, BadHouse, lambda: House(6, 5, 0), 5)
        check_refused(self, BadHouse, lambda: House(6, 7, 9), 9)
        check_refused(self, BadHouse, lambda: House(True, 7, 1), True)

    def test_at_first(self):
        for q in range(1, 7):
            house = House(q, 7, 1)
            same(self, everything(house), (
                2 ** q, 0, None, (), (), ((),) * 2 ** q, ((),) * 2 ** q, ((), (), ())), q)
            check_refused(self, Idle, house.step)


class Telling(unittest.TestCase):
    def test_by_hand(self):
        # Of 3 the letters are 3, 3; of 4 they are 4, 4. Two bits: the ways to 3 are (0, 1, 3) and (0, 2, 3).
        house = House(2, 5, 1)
        same(self, house.tell(0, ((3,), (4,))), None)
        same(self, [house.beat(), house.source(), house.heard(3), house.heard(0)], [0, 0, (None,) * 4, (3, 3, 4, 4)])
        same(self, [house.rows(3), house.rows(0)], [(None, None), ((3,), (4,))])
        heard = [
            (None, None, None, None), (3, None, None, None), (3, 3, None, None), (3, 3, 4, None), (3, 3, 4, 4),
            (3, 3, 4, 4)]
        for beat in range(6):
            same(self, house.step(), None)
            same(self, [house.beat(), house.heard(3)], [beat + 1, heard[beat]])
        same(self, house.rows(3), ((3,), (4,)))
        check_refused(self, Idle, house.step)
        same(self, [house.beat(), house.source(), house.bad()], [6, 0, ()])
        same(self, house.books(), ((1, ()), (2, ()), (3, ())))

    def test_when_rows_are_told(self):
        # Hand 1 hears tree 0 straight, tree 1 by hand 3 at the beat 3: only then the first round is done.
        house = House(2, 5, 1)
        house.tell(0, ((3,), (4,)))
        told = []
        for _ in range(6):
            house.step()
            told.append((house.rows(1), house.rows(2), house.rows(3)))
        none, one, both = (None, None), ((3,), None), ((3,), (4,))
        same(self, told, [
            (none, none, none), (none, none, none), (none, one, one), (one, one, one), (one, both, both),
            (both, both, both)])

    def test_one_bit(self):
        house = House(1, 2, 1)
        house.tell(1, ((1,), (0,), (1,)))
        for beat in range(4):
            same(self, house.heard(0), ((1, 0, 1)[:beat] + (None,) * 3)[:3], beat)
            house.step()
        same(self, house.rows(0), ((1,), (0,), (1,)))
        check_refused(self, Idle, house.step)

    def test_a_silent_hand_by_hand(self):
        house = House(2, 5, 1)
        house.silence(1)
        house.tell(0, ((3,), (4,)))
        to_end(house)
        same(self, [house.heard(hand) for hand in range(4)], [
            (3, 3, 4, 4), (3, 3, 4, 4), (None, 3, None, 4), (None, 3, None, 4)])
        same(self, house.rows(3), ((3,), (4,)))
        same(self, house.books(), ((1, ()), (2, (0,)), (3, (0,))))
        # Of one bad hand it may be 1 or 3, of which both ways accused, (0, 1, 3, 2) and (0, 1, 3), have one.
        same(self, [house.bad(), house.blamed(0), house.blamed(1)], [(1,), None, ()])

    def test_a_lie_by_hand(self):
        # 1 tells 3 by bit 1, 0 by bit 0: the one lie comes to 3 and, told on by it, to 2.
        house = House(2, 5, 1)
        house.lie(1, 1, 4)
        house.tell(0, ((3,),))
        to_end(house)
        same(self, [house.heard(hand) for hand in range(4)], [(3, 3), (3, 3), (2, 3), (2, 3)])
        same(self, [house.rows(hand) for hand in range(4)], [((3,),), ((3,),), (None,), (None,)])
        same(self, house.books(), ((1, ()), (2, ()), (3, ())))
        same(self, [house.bad(), house.blamed(1)], [(1,), ()])

    def test_lies_where_there_is_nothing_to_tell(self):
        house = House(2, 5, 1)
        house.silence(1)
        house.lie(3, 0, 4)
        house.tell(0, ((3,),))
        to_end(house)
        # 3 was told nothing of tree 0, so it tells 2 its 4 alone; at beats where no letter is due it tells nothing.
        same(self, [house.heard(hand) for hand in range(4)], [(3, 3), (3, 3), (4, 3), (None, 3)])

    def test_a_silent_one_that_lies_is_silent(self):
        for first in (0, 1):
            house = House(2, 5, 1)
            deeds = [lambda: house.silence(1), lambda: house.lie(1, 1, 4)]
            deeds[first]()
            deeds[1 - first]()
            house.tell(0, ((3,),))
            to_end(house)
            same(self, house.heard(3), (None, 3))

    def test_mended_between_the_beats(self):
        # To hand 7 tree 0 goes by 1 at beat 0, by 3 at beat 1: 3, silent then, hears it, and tells it at beat 2.
        house = House(3, 5, 1)
        house.silence(3)
        house.tell(0, ((2,),))
        house.step()
        house.step()
        house.mend(3)
        to_end(house)
        same(self, house.heard(7), (2, 2, 2))
        same(self, house.bad(), (3,))

    def test_bad_is_who_was_not_true_at_a_beat(self):
        house = House(2, 5, 1)
        house.silence(1)
        house.tell(0, ((3,),))
        house.mend(1)
        house.silence(2)
        house.mend(2)
        house.lie(2, 0, 1)
        house.lie(2, 0, 0)
        house.step()
        same(self, house.bad(), ())
        house.lie(3, 0, 1)
        same(self, house.bad(), ())
        house.step()
        same(self, house.bad(), (3,))
        house.mend(3)
        house.step()
        house.silence(1)
        house.step()
        same(self, house.bad(), (1, 3))
        house.silence(2)
        same(self, house.bad(), (1, 3))
        house.silence(0)
        same(self, [house.bad(), house.source()], [(1, 3), 0])

    def test_the_next_telling(self):
        house = House(2, 5, 1)
        house.silence(1)
        house.tell(0, ((3,),))
        to_end(house)
        house.mend(1)
        same(self, house.bad(), (1,))
        house.tell(2, ((1,), (4,)))
        same(self, [house.beat(), house.source(), house.bad()], [0, 2, ()])
        same(self, [house.heard(0), house.heard(2)], [(None,) * 4, (1, 1, 4, 4)])
        same(self, house.books(), ((0, ()), (1, ()), (3, ())))
        to_end(house)
        same(self, house, ended(2, 5, 1, 2, ((1,), (4,))))


class Refused(unittest.TestCase):
    def no_hands(self, house):
        hands = house.hands()
        return [odd for odd in oddities() if not is_number(odd) or not 0 <= odd < hands] + [hands, -1, hands + 7]

    def unchanged(self, house, ask, kind, *values):
        before, twin = everything(house), house.copy()
        check_refused(self, kind, ask, *values)
        same(self, everything(house), before)
        self.assertTrue(house == twin)

    def states(self):
        """Houses without, amid and behind a telling, each with bad hands."""
        house = House(2, 5, 2)
        house.silence(3)
        house.lie(1, 0, 2)
        yield house.copy()
        house.tell(2, ((1, 2), (3, 4)))
        yield house.copy()
        house.step()
        house.step()
        yield house.copy()
        to_end(house)
        yield house

    def test_no_hand(self):
        for house in self.states():
            for thing in self.no_hands(house):
                for ask in (
                        lambda: house.silence(thing), lambda: house.mend(thing), lambda: house.heard(thing),
                        lambda: house.rows(thing), lambda: house.lie(thing, 0, 1), lambda: house.lie(thing, 9, None),
                        lambda: house.tell(thing, ((1, 2),)), lambda: house.tell(thing, None)):
                    self.unchanged(house, ask, NoHand, thing)

    def test_no_bit(self):
        for house in self.states():
            for thing in [odd for odd in oddities() if not is_number(odd) or not 0 <= odd < 2] + [2, -1, 60]:
                for hand in range(4):
                    for more in (0, 1, 5, None):
                        self.unchanged(house, lambda: house.lie(hand, thing, more), NoBit, thing)

    def test_no_number(self):
        for house in self.states():
            for thing in [odd for odd in oddities() if not is_number(odd) or not 0 <= odd < 5] + [5, -1, 7]:
                for hand in range(4):
                    self.unchanged(house, lambda: house.lie(hand, 1, thing), NoNumber, thing)

    def test_bad_rows(self):
        right = ((1, 2), (3, 4))
        others = [None, True, False, "1", (), [], {}, -1, 0, 4, 5, (1,), (0, 0), 10 ** 30]
        for house in self.states():
            for thing in [*oddities(), (), None, ((1, 2),) * 21, ((1, 2),) * 200, ((1,),), ((1, 2, 3),)]:
                if not self.written_rows(thing):
                    for source in range(4):
                        self.unchanged(house, lambda: house.tell(source, thing), BadRows, thing)
        house = House(2, 5, 2)
        for thing in mutants(right, others):
            if self.written_rows(thing):
                house.copy().tell(0, thing)
            else:
                check_refused(self, BadRows, lambda: house.tell(0, thing), thing)
        self.assertTrue(house == House(2, 5, 2))

    def written_rows(self, thing):
        if type(thing) is not tuple or not 1 <= len(thing) <= 20:
            return False
        if any(type(row) is not tuple or len(row) != 2 for row in thing):
            return False
        return all(is_number(one) and 0 <= one < 5 for row in thing for one in row)

    def test_from_one_to_twenty_rows(self):
        for many in range(1, 21):
            house = House(1, 2, 1)
            house.tell(1, ((1,),) * many)
            same(self, len(house.heard(0)), many)

    def test_busy(self):
        house = House(2, 5, 1)
        house.tell(0, ((3,),))
        for _ in range(4):
            for source in range(4):
                self.unchanged(house, lambda: house.tell(source, ((1,),)), Busy)
            # Busy goes ahead of Bad, behind NoHand and BadRows.
            house.silence(3)
            self.unchanged(house, lambda: house.tell(3, ((1,),)), Busy)
            rows, five = (), 5
            self.unchanged(house, lambda: house.tell(3, rows), BadRows, rows)
            self.unchanged(house, lambda: house.tell(five, rows), NoHand, five)
            house.step()
        check_refused(self, Idle, house.step)
        house.tell(1, ((1,),))

    def test_a_source_that_is_not_true(self):
        house = House(2, 5, 1)
        house.silence(1)
        house.lie(2, 1, 3)
        for hand in (1, 2):
            self.unchanged(house, lambda: house.tell(hand, ((1,),)), Bad, hand)
        house.lie(2, 0, 0)
        self.unchanged(house, lambda: house.tell(2, ((1,),)), Bad, 2)
        house.lie(2, 1, 0)
        house.copy().tell(2, ((1,),))
        house.lie(1, 0, 2)
        house.lie(1, 0, 0)
        self.unchanged(house, lambda: house.tell(1, ((1,),)), Bad, 1)
        house.mend(1)
        house.tell(1, ((1,),))

    def test_the_source_stays_true(self):
        house = House(2, 5, 1)
        house.tell(2, ((1,),))
        for _ in range(4):
            self.unchanged(house, lambda: house.silence(2), Bad, 2)
            self.unchanged(house, lambda: house.lie(2, 1, 3), Bad, 2)
            bit, more = 2, 5
            self.unchanged(house, lambda: house.lie(2, bit, 3), NoBit, bit)
            self.unchanged(house, lambda: house.lie(2, 0, more), NoNumber, more)
            twin = house.copy()
            same(self, [house.lie(2, 0, 0), house.mend(2)], [None, None])
            self.assertTrue(house == twin)
            house.step()
        house.silence(2)
        house.lie(2, 1, 3)
        same(self, house.source(), 2)

    def test_idle(self):
        house = House(2, 5, 1)
        house.silence(1)
        self.unchanged(house, house.step, Idle)
        house.tell(0, ((1,),))
        to_end(house)
        self.unchanged(house, house.step, Idle)
        self.unchanged(house, house.step, Idle)

    def test_deeds_tell_none(self):
        house = House(2, 5, 1)
        same(self, [house.silence(1), house.silence(1), house.lie(2, 0, 3), house.lie(2, 1, 0)], [None] * 4)
        same(self, [house.mend(1), house.mend(1), house.mend(2), house.tell(1, ((1,),)), house.step()], [None] * 5)


class StepByStep(unittest.TestCase):
    """Against a walk of who tells whom what, with deeds between the beats."""

    def check(self, house, model):
        hands = range(2 ** model.q)
        about = (model.q, model.p, model.k, model.source, model.rows, model.beat, model.silent, model.lies)
        same(self, [house.beat(), house.source()], [model.beat, model.source], *about)
        same(self, house.bad(), tuple(sorted(model.bad)), *about)
        if model.source is None:
            return
        for hand in hands:
            same(self, house.heard(hand), tuple(model.heard[hand]), hand, *about)

    def check_told(self, house, model):
        """Rows, books and blame."""
        about = (model.q, model.p, model.k, model.source, model.rows, model.beat)
        books = []
        for hand in range(2 ** model.q):
            if hand == model.source:
                same(self, house.rows(hand), model.rows, hand, *about)
                continue
            rounds = model.rounds(hand)
            rows = [numbers and decoded(model.p, model.k, numbers) for numbers in rounds]
            same(self, house.rows(hand), tuple(rows), hand, *about)
            trees = {j for numbers, row in zip(rounds, rows) if row is not None
                     for j in wrong(model.p, model.k, numbers)}
            books.append((hand, tuple(sorted(trees))))
        same(self, house.books(), tuple(books), *about)
        for most in (0, 1, 2):
            want = surely_bad(model.q, tuple(books), most, source=model.source)
            same(self, house.blamed(most), want, most, *about)

    def drawn_deed(self, chance, house, model):
        hand, bit = chance.randrange(2 ** model.q), chance.randrange(model.q)
        more = chance.choice((0, 1, chance.randrange(model.p), model.p - 1))
        own = hand == model.source and model.under_way()
        deed = chance.choice(("silence", "lie", "lie", "mend", "mend"))
        if deed == "mend":
            house.mend(hand)
            model.mend(hand)
        elif own and (deed == "silence" or more > 0):
            ask = (lambda: house.silence(hand)) if deed == "silence" else (lambda: house.lie(hand, bit, more))
            check_refused(self, Bad, ask, hand)
        elif deed == "silence":
            house.silence(hand)
            model.silent.add(hand)
        else:
            house.lie(hand, bit, more)
            model.lie(hand, bit, more)

    def test_drawn(self):
        chance = random.Random(181)
        for at in range(60):
            q = at % 6 + 1
            p = chance.choice((7, 11, 101, GREAT))
            k = chance.randrange(1, q + 1)
            house, model = House(q, p, k), WalkedHouse(q, p, k)
            for _ in range(chance.randrange(1, 4)):
                self.drawn_telling(chance, house, model)

    def drawn_telling(self, chance, house, model):
        for hand in range(2 ** model.q):
            if chance.randrange(2):
                house.mend(hand)
                model.mend(hand)
        true = [hand for hand in range(2 ** model.q) if hand not in model.untrue()]
        if not true:
            return
        source, rows = chance.choice(true), drawn_rows(chance, model.p, model.k, chance.choice((1, 2, 3)))
        house.tell(source, rows)
        model.tell(source, rows)
        often = chance.choice((0, 1, 1, 3))
        while model.under_way():
            for _ in range(chance.randrange(often + 1)):
                self.drawn_deed(chance, house, model)
            self.check(house, model)
            house.step()
            model.step()
            if model.q < 5 or chance.randrange(10) == 0:
                self.check_told(house, model)
        self.check(house, model)
        self.check_told(house, model)
        check_refused(self, Idle, house.step)

    def test_twenty_rows_of_six_bits(self):
        chance = random.Random(182)
        house, model = House(6, GREAT, 4), WalkedHouse(6, GREAT, 4)
        rows = drawn_rows(chance, GREAT, 4, 20)
        for one in (house, model):
            one.tell(21, rows)
            one.lie(3, 5, 77)
        while model.under_way():
            house.step()
            model.step()
        same(self, house.beat(), 126)
        self.check(house, model)
        self.check_told(house, model)
        for hand in range(64):
            if hand != 3:
                same(self, house.rows(hand), rows, hand)


class Whole(unittest.TestCase):
    """What 3 (d), (e), (f), (h) say, of whole houses."""

    def drawn(self, chance, many):
        for _ in range(many):
            q = chance.choice((2, 3, 4, 5, 6))
            p = chance.choice((7, 11, GREAT))
            source = chance.randrange(2 ** q)
            yield q, p, source, [hand for hand in range(2 ** q) if hand != source]

    def test_whoever_is_silent(self):
        chance = random.Random(183)
        for q, p, source, others in self.drawn(chance, 40):
            f = chance.randrange(q)
            lot = sorted(chance.sample(others, min(f, len(others))))
            house = House(q, p, tellable(q, f))
            rows = drawn_rows(chance, p, tellable(q, f), chance.randrange(1, 4))
            for hand in lot:
                house.silence(hand)
            house.tell(source, rows)
            to_end(house)
            for hand in range(2 ** q):
                if hand not in lot:
                    same(self, house.rows(hand), rows, q, p, source, lot, hand)

    def test_whoever_is_silent_now_and_then(self):
        chance = random.Random(184)
        for q, p, source, others in self.drawn(chance, 30):
            f = chance.randrange(q)
            lot = sorted(chance.sample(others, min(f, len(others))))
            house = House(q, p, tellable(q, f))
            rows = drawn_rows(chance, p, tellable(q, f), 2)
            house.tell(source, rows)
            while house.beat() < 3 * q:
                for hand in lot:
                    chance.choice((house.silence, house.mend))(hand)
                house.step()
            for hand in range(2 ** q):
                if hand not in lot:
                    same(self, house.rows(hand), rows, q, p, source, lot, hand)

    def test_whoever_lies(self):
        chance = random.Random(185)
        blamed = 0
        for q, p, source, others in self.drawn(chance, 50):
            f = chance.randrange((q - 1) // 2 + 1)
            lot = tuple(sorted(chance.sample(others, f)))
            house = House(q, p, sure(q, f))
            rows = drawn_rows(chance, p, sure(q, f), 2)
            house.tell(source, rows)
            while house.beat() < 3 * q:
                for hand in lot:
                    for bit in range(q):
                        house.lie(hand, bit, chance.randrange(p))
                    if chance.randrange(4) == 0:
                        chance.choice((house.silence, house.mend))(hand)
                house.step()
            about = (q, p, source, lot)
            for hand in range(2 ** q):
                if hand not in lot:
                    same(self, house.rows(hand), rows, hand, *about)
            self.assertLessEqual(set(house.bad()), set(lot), about)
            same(self, explains(q, house.books(), lot, source=source), True, *about)
            self.assertLessEqual(set(house.blamed(f)), set(lot), about)
            blamed += len(house.blamed(f))
        self.assertTrue(blamed)

    def test_what_comes_is_what_by_way_tells(self):
        chance = random.Random(186)
        for q, p, source, others in self.drawn(chance, 25):
            house = House(q, p, 1)
            rows = drawn_rows(chance, p, 1, 2)
            house.tell(source, rows)
            faults, held, silent, lies = [], {}, set(), {}
            while house.beat() < 3 * q:
                for hand in chance.sample(others, min(3, len(others))):
                    self.drawn_deed(chance, house, hand, silent, lies, q, p)
                for hand in others:
                    for bit in range(q):
                        more = None if hand in silent else lies.get((hand, bit), 0)
                        if held.get((hand, bit), 0) != more:
                            held[hand, bit] = more
                            faults.append((hand, bit, house.beat(), more))
                house.step()
            sent = letters(p, q, rows)
            for hand in others:
                want = tuple(
                    by_way(p, q, hand, i, number, tuple(faults), source=source) for i, number in enumerate(sent))
                same(self, house.heard(hand), want, q, p, source, hand, faults)

    def drawn_deed(self, chance, house, hand, silent, lies, q, p):
        deed, bit, more = chance.randrange(4), chance.randrange(q), chance.randrange(p)
        if deed == 0:
            house.silence(hand)
            silent.add(hand)
        elif deed == 1:
            house.mend(hand)
            silent.discard(hand)
            for one in range(q):
                lies.pop((hand, one), None)
        else:
            house.lie(hand, bit, more)
            lies[hand, bit] = more

    def test_hangs_on_nothing_told_ahead(self):
        chance = random.Random(187)
        for q, p, source, others in self.drawn(chance, 25):
            used, fresh = House(q, p, 1), House(q, p, 1)
            used.lie(others[0], 0, 1)
            used.tell(source, drawn_rows(chance, p, 1, 3))
            to_end(used)
            for hand in range(2 ** q):
                used.mend(hand)
            lot = chance.sample(others, 1)
            for house in (used, fresh):
                house.silence(lot[0])
            for house in (used, fresh):
                house.tell(source, ((3,), (1,)))
            while fresh.beat() < 3 * q:
                self.assertTrue(used == fresh)
                same(self, everything(used), everything(fresh))
                used.step()
                fresh.step()
            self.assertTrue(used == fresh)
            same(self, everything(used), everything(fresh))


class Alike(unittest.TestCase):
    def equal(self, one, other, want):
        same(self, one == other, want)
        same(self, other == one, want)
        same(self, one != other, not want)
        same(self, other != one, not want)

    def test_new_ones(self):
        self.equal(House(2, 5, 1), House(2, 5, 1), True)
        for other in (House(3, 5, 1), House(2, 7, 1), House(2, 5, 2)):
            self.equal(House(2, 5, 1), other, False)

    def test_deeds(self):
        one, other = House(2, 5, 1), House(2, 5, 1)
        deeds = [
            lambda house: house.silence(1), lambda house: house.lie(1, 0, 2), lambda house: house.lie(1, 1, 2),
            lambda house: house.lie(3, 1, 2), lambda house: house.lie(3, 1, 4), lambda house: house.lie(3, 1, 0),
            lambda house: house.silence(2), lambda house: house.mend(1), lambda house: house.tell(0, ((1,),)),
            lambda house: house.step(), lambda house: house.mend(2), lambda house: house.step(),
            lambda house: house.step(), lambda house: house.step(), lambda house: house.tell(0, ((1,),))]
        for deed in deeds:
            deed(one)
            self.equal(one, other, False)
            deed(other)
            self.equal(one, other, True)

    def test_in_any_order(self):
        one, other = House(2, 5, 1), House(2, 5, 1)
        for hand in (1, 2, 3):
            one.silence(hand)
            one.lie(hand, 0, 1)
            other.lie(4 - hand, 0, 1)
            other.silence(4 - hand)
        self.equal(one, other, True)
        for hand in (1, 2, 3):
            one.mend(hand)
        self.equal(one, House(2, 5, 1), True)

    def test_the_telling(self):
        base = House(2, 5, 1)
        base.tell(0, ((1,),))
        for source, rows in ((1, ((1,),)), (0, ((2,),)), (0, ((1,), (1,)))):
            other = House(2, 5, 1)
            other.tell(source, rows)
            self.equal(base, other, False)
        self.equal(base, House(2, 5, 1), False)
        # Behind the end all hands heard the same, whoever told it.
        self.equal(ended(2, 5, 1, 0, ((1,),)), ended(2, 5, 1, 1, ((1,),)), False)
        self.equal(ended(2, 5, 1, 0, ((1,),)), House(2, 5, 1), False)
        self.equal(ended(2, 5, 1, 0, ((1,),)), ended(2, 5, 1, 0, ((1,),)), True)

    def test_its_beats_alone(self):
        # All others being silent nothing is heard behind the beat at which the source tells its last letter.
        house = House(2, 5, 1)
        for hand in (1, 2, 3):
            house.silence(hand)
        house.tell(0, ((1,),))
        house.step()
        house.step()
        for _ in range(2):
            twin = house.copy()
            twin.step()
            same(self, [house.heard(hand) for hand in range(4)], [twin.heard(hand) for hand in range(4)])
            same(self, house.bad(), twin.bad())
            self.equal(house, twin, False)
            house.step()
            self.equal(house, twin, True)

    def test_who_was_bad_and_what_was_heard(self):
        # By a bit and a beat at which 3 tells no letter, so only that it was bad is otherwise.
        one, other = House(2, 5, 1), House(2, 5, 1)
        for house in (one, other):
            house.tell(0, ((1,),))
        one.lie(3, 0, 1)
        for house in (one, other):
            house.step()
        one.mend(3)
        same(self, [one.heard(hand) for hand in range(4)], [other.heard(hand) for hand in range(4)])
        self.equal(one, other, False)
        # And two that are bad alike, with lies otherwise at one beat that were heard.
        one, other = House(2, 5, 1), House(2, 5, 1)
        for house, more in ((one, 1), (other, 2)):
            house.tell(0, ((1,),))
            house.step()
            house.lie(1, 1, more)
            house.step()
            house.mend(1)
        same(self, one.bad(), other.bad())
        self.equal(one, other, False)

    def test_with_something_else(self):
        for house in (House(2, 5, 1), ended(2, 5, 1, 0, ((1,),))):
            for thing in (*oddities(), (2, 5, 1), object(), everything(house)):
                self.equal(house, thing, False)

    def test_copies(self):
        chance = random.Random(188)
        house = House(3, 7, 2)
        self.check_copy(house)
        house.silence(1)
        house.lie(2, 0, 3)
        self.check_copy(house)
        house.tell(5, drawn_rows(chance, 7, 2, 2))
        while house.beat() < 9:
            self.check_copy(house)
            house.step()
        self.check_copy(house)

    def check_copy(self, house):
        before, twin, third = everything(house), house.copy(), house.copy()
        self.assertIs(type(twin), House)
        self.assertIsNot(twin, house)
        self.equal(house, twin, True)
        same(self, everything(twin), before)
        deeds = [lambda: twin.silence(3), lambda: twin.lie(2, 1, 5), lambda: twin.mend(1), lambda: twin.mend(2)]
        if twin.source() is not None and twin.beat() < 9:
            deeds += [twin.step, twin.step] if twin.beat() < 8 else [twin.step]
        for deed in deeds:
            deed()
            same(self, everything(house), before)
            self.equal(house, third, True)
            self.equal(house, twin, False)
        self.equal(third, house, True)


class Asking(unittest.TestCase):
    def test_by_places_and_by_names(self):
        one, other = House(2, 5, 1), House(k=1, p=5, q=2)
        self.assertTrue(one == other)
        self.assertTrue(one == House(2, 5, k=1))
        for house, by_names in ((one, False), (other, True)):
            if by_names:
                house.silence(hand=1)
                house.lie(more=3, bit=1, hand=2)
                house.lie(3, 1, more=3)
                house.mend(hand=3)
                house.tell(rows=((1,),), source=0)
            else:
                house.silence(1)
                house.lie(2, 1, 3)
                house.lie(3, 1, 3)
                house.mend(3)
                house.tell(0, ((1,),))
        for _ in range(4):
            self.assertTrue(one == other)
            for hand in range(4):
                same(self, other.heard(hand=hand), one.heard(hand))
                same(self, other.rows(hand=hand), one.rows(hand))
            for most in range(4):
                same(self, other.blamed(most=most), one.blamed(most))
            one.step()
            other.step()

    def test_the_methods_are_its_own(self):
        for name in METHODS:
            self.assertIn(name, vars(House))

    def test_nothing_handed_in_is_changed(self):
        rows = ((1, 2), (3, 4))
        house = House(2, 5, 2)
        house.tell(0, rows)
        to_end(house)
        same(self, rows, ((1, 2), (3, 4)))
        same(self, house.heard(0), tuple(written_value(5, row, x) for row in rows for x in (1, 2)))

    def test_asked_again_the_same(self):
        house = House(3, 7, 1)
        house.silence(6)
        house.tell(1, ((5,), (6,)))
        while house.beat() < 9:
            same(self, everything(house), everything(house))
            house.step()

    def test_blamed_somewhat_beyond(self):
        house = House(2, 5, 1)
        house.blamed(4)
        house.silence(1)
        house.tell(0, ((1,),))
        to_end(house)
        house.blamed(4)


if __name__ == "__main__":
    unittest.main()
