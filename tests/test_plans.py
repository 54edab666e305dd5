import itertools
import random
import unittest

from beatferry.beats import told
from beatferry.having import end
from beatferry.plans import bound, judged, plan
from helper import check_asking, same


def written_judged(hands, m, beats, source):
    """As point 9 words it: what each hand has is kept beat by beat."""
    has = [set(range(m)) if hand == source else set() for hand in range(hands)]
    done = None
    for at in range(len(beats) + 1):
        if done is None and all(len(letters) == m for letters in has):
            done = at
        if at == len(beats):
            break
        wrong = []
        for teller, hearer, letter in beats[at]:
            lesser = [one for one, other, _ in beats[at] if other == hearer and one < teller]
            if teller == hearer or lesser or letter not in has[teller]:
                wrong.append(teller)
        if wrong:
            return ("wrong", at, min(wrong))
        for _, hearer, letter in beats[at]:
            has[hearer].add(letter)
    for hand in range(hands):
        for letter in range(m):
            if letter not in has[hand]:
                return ("lacks", hand, letter)
    return ("done", done)


def doubling_plan(hands, m, source):
    """A right plan of any number of hands: each letter by doublings, one letter behind the other."""
    order = [(source + more) % hands for more in range(hands)]
    beats = []
    for letter in range(m):
        having = 1
        while having < hands:
            pairs = zip(order[:having], order[having:])
            beats.append(tuple(sorted((teller, hearer, letter) for teller, hearer in pairs)))
            having *= 2
    return tuple(beats)


def fewest_beats(hands, m):
    """The fewest beats of any plan, by all that can be told at a beat from all that can be had."""
    start = tuple(frozenset(range(m)) if hand == 0 else frozenset() for hand in range(hands))
    states, beats = {start}, 0
    while not any(all(len(letters) == m for letters in state) for state in states):
        reached = set()
        for state in states:
            reached.update(behind(state))
        states, beats = reached, beats + 1
    return beats


def behind(state):
    hands = range(len(state))
    choices = []
    for teller in hands:
        some = [(hearer, letter) for hearer in hands if hearer != teller for letter in sorted(state[teller])]
        choices.append([None] + [(hearer, letter) for hearer, letter in some if letter not in state[hearer]])
    for chosen in itertools.product(*choices):
        tellings = [one for one in chosen if one is not None]
        if len({hearer for hearer, _ in tellings}) == len(tellings):
            after = list(state)
            for hearer, letter in tellings:
                after[hearer] = after[hearer] | {letter}
            yield tuple(after)


def changed(beats, at, beat):
    return beats[:at] + (tuple(sorted(beat)),) + beats[at + 1:]


class ThePlan(unittest.TestCase):
    def test_by_hand(self):
        same(self, plan(1, 1), (((0, 1, 0),),))
        same(self, plan(1, 2), (((0, 1, 0),), ((0, 1, 1), (1, 0, 0))))
        same(self, plan(1, 1, source=1), (((1, 0, 0),),))
        same(self, plan(2, 1), (((0, 1, 0),), ((0, 2, 0), (1, 3, 0))))
        same(self, plan(2, 3), (
            ((0, 1, 0),), ((0, 2, 1), (1, 3, 0)), ((0, 1, 2), (1, 0, 0), (2, 3, 1), (3, 2, 0)),
            ((0, 2, 2), (1, 3, 2), (2, 0, 1), (3, 1, 1))))

    def test_what_told_tells_beat_by_beat(self):
        for q in range(1, 5):
            for source in {0, 1, 2 ** q - 1, 2 ** q // 3}:
                for m in (1, 2, 3, 7):
                    self.check(q, m, source)
        self.check(5, 12, 22)
        self.check(6, 60, 41)
        self.check(6, 1, 0)

    def check(self, q, m, source):
        want = []
        for t in range(m - 1 + q):
            row = [(hand, told(q, m, hand, t, source=source)) for hand in range(2 ** q)]
            want.append(tuple((hand, *answer) for hand, answer in row if answer is not None))
        same(self, plan(q, m, source=source), tuple(want), q, m, source)

    def test_rising_tellers(self):
        for beat in plan(5, 9, source=11):
            tellers = [telling[0] for telling in beat]
            self.assertEqual(tellers, sorted(set(tellers)))


class Done(unittest.TestCase):
    def test_the_ferry_s_plans(self):
        for q in range(1, 5):
            for source in range(2 ** q):
                for m in (1, 2, 3, 8):
                    got = judged(2 ** q, m, plan(q, m, source=source), source=source)
                    same(self, got, ("done", m - 1 + q), q, m, source)
                    same(self, got[1], end(q, m))
                    same(self, got[1], bound(2 ** q, m))
        for q, m, source in ((5, 20, 9), (6, 60, 63), (6, 1, 5)):
            same(self, judged(2 ** q, m, plan(q, m, source=source), source=source), ("done", m - 1 + q))

    def test_the_fewest_of_its_beats(self):
        # Beats behind the last one needed, empty or full, count for nothing.
        right = plan(2, 2)
        same(self, judged(4, 2, right), ("done", 3))
        same(self, judged(4, 2, right + ((), ((0, 3, 1),), ())), ("done", 3))
        same(self, judged(4, 2, ((),) + right), ("done", 4))
        same(self, judged(4, 2, ((), ()) + right + right), ("done", 5))

    def test_any_number_of_hands(self):
        for hands in range(2, 65):
            for m, source in ((1, 0), (1, hands - 1), (3, hands // 2)):
                beats = doubling_plan(hands, m, source)
                doublings = len(beats) // m
                same(self, judged(hands, m, beats, source=source), ("done", m * doublings), hands, m, source)
                same(self, bound(hands, m), m - 1 + doublings, hands, m)

    def test_others_of_a_hand_s_own_letters(self):
        same(self, judged(3, 1, (((0, 2, 0),), ((2, 1, 0),))), ("done", 2))
        same(self, judged(3, 2, (((1, 2, 1),), ((1, 0, 0), (2, 1, 1)), ((0, 2, 0), (1, 0, 1))), source=1), ("done", 3))
        # What is told to the source, or once more, does no harm.
        same(self, judged(2, 1, (((0, 1, 0),), ((0, 1, 0), (1, 0, 0)))), ("done", 1))


class Wrong(unittest.TestCase):
    def test_one_who_tells_itself(self):
        same(self, judged(2, 1, (((0, 0, 0),),)), ("wrong", 0, 0))
        same(self, judged(2, 1, (((0, 1, 0),), ((1, 1, 0),))), ("wrong", 1, 1))

    def test_one_whose_hearer_hears_a_lesser(self):
        same(self, judged(3, 1, (((0, 1, 0),), ((0, 2, 0), (1, 2, 0)))), ("wrong", 1, 1))
        same(self, judged(3, 2, (((2, 1, 0),), ((1, 0, 0), (2, 0, 1))), source=2), ("wrong", 1, 2))
        right = plan(2, 1)
        same(self, judged(4, 1, right + (((0, 1, 0), (2, 1, 0), (3, 1, 0)),)), ("wrong", 2, 2))

    def test_one_who_has_not_the_letter(self):
        same(self, judged(2, 1, (((1, 0, 0),),)), ("wrong", 0, 1))
        same(self, judged(3, 2, (((0, 1, 0),), ((1, 2, 1),))), ("wrong", 1, 1))
        # Heard at this very beat is not had ahead of it.
        same(self, judged(3, 1, (((0, 1, 0), (1, 2, 0)),)), ("wrong", 0, 1))
        same(self, judged(3, 1, (((1, 2, 0), (2, 0, 0)),), source=1), ("wrong", 0, 2))

    def test_the_first_beat_and_its_least_teller(self):
        same(self, judged(4, 1, (((0, 1, 0), (2, 3, 0), (3, 3, 0)), ((2, 2, 0),))), ("wrong", 0, 2))
        same(self, judged(4, 1, (((0, 1, 0), (2, 1, 0)), ((1, 1, 0),))), ("wrong", 0, 2))
        same(self, judged(4, 1, ((), ((0, 1, 0),), ((0, 0, 0), (1, 1, 0)))), ("wrong", 2, 0))

    def test_also_behind_the_last_beat_needed(self):
        same(self, judged(2, 1, (((0, 1, 0),), (), ((1, 1, 0),))), ("wrong", 2, 1))

    def test_also_where_something_lacks(self):
        same(self, judged(3, 1, (((2, 1, 0),),)), ("wrong", 0, 2))


class Lacks(unittest.TestCase):
    def test_without_beats(self):
        same(self, judged(2, 1, ()), ("lacks", 1, 0))
        same(self, judged(64, 60, ()), ("lacks", 1, 0))
        same(self, judged(5, 3, (), source=4), ("lacks", 0, 0))
        same(self, judged(5, 3, ((), (), ()), source=0), ("lacks", 1, 0))

    def test_least_hand_least_letter(self):
        same(self, judged(3, 2, (((0, 2, 0),), ((0, 2, 1),))), ("lacks", 1, 0))
        same(self, judged(3, 2, (((0, 1, 0),), ((0, 1, 1), (1, 2, 0)))), ("lacks", 2, 1))
        same(self, judged(3, 3, (((0, 1, 1),), ((0, 1, 0),))), ("lacks", 1, 2))

    def test_the_ferry_s_plan_cut_short(self):
        for q in range(1, 5):
            for m in (1, 2, 5):
                right = plan(q, m)
                for many in range(len(right)):
                    same(self, judged(2 ** q, m, right[:many])[0], "lacks", q, m, many)


class AsWritten(unittest.TestCase):
    def check(self, hands, m, beats, source):
        same(self, judged(hands, m, beats, source=source), written_judged(hands, m, beats, source), hands, m, beats)

    def test_one_telling_left_out_moved_or_otherwise(self):
        for q, m, source in ((1, 2, 1), (2, 2, 0), (2, 3, 3), (3, 2, 5)):
            right = plan(q, m, source=source)
            hands = 2 ** q
            for at, beat in enumerate(right):
                for one in beat:
                    rest = tuple(telling for telling in beat if telling != one)
                    self.check(hands, m, changed(right, at, rest), source)
                    self.check_moved(hands, m, right, at, one, rest, source)
                    teller, hearer, letter = one
                    for other in range(hands):
                        self.check(hands, m, changed(right, at, rest + ((teller, other, letter),)), source)
                    for other in range(m):
                        self.check(hands, m, changed(right, at, rest + ((teller, hearer, other),)), source)

    def check_moved(self, hands, m, right, at, one, rest, source):
        for to, beat in enumerate(right):
            if to != at and one[0] not in [telling[0] for telling in beat]:
                self.check(hands, m, changed(changed(right, at, rest), to, beat + (one,)), source)

    def test_drawn(self):
        chance = random.Random(51)
        seen = set()
        for _ in range(3000):
            hands, m = chance.choice(((2, 1), (2, 3), (3, 2), (4, 2), (5, 1), (7, 3), (64, 2)))
            source = chance.randrange(hands)
            beats = self.drawn_plan(chance, hands, m, source)
            self.check(hands, m, beats, source)
            seen.add(judged(hands, m, beats, source=source)[0])
        self.assertEqual(seen, {"wrong", "lacks", "done"})

    def drawn_plan(self, chance, hands, m, source):
        """A plan that is mostly right, with a wrong telling now and then."""
        has = {hand: set(range(m)) if hand == source else set() for hand in range(hands)}
        beats = []
        for _ in range(chance.randrange(12)):
            free = list(range(hands))
            chance.shuffle(free)
            beat = []
            for teller in range(hands):
                if chance.randrange(300) == 0:
                    beat.append((teller, chance.randrange(hands), chance.randrange(m)))
                elif has[teller] and free and free[-1] != teller:
                    beat.append((teller, free.pop(), chance.choice(sorted(has[teller]))))
            for _, hearer, letter in beat:
                has[hearer].add(letter)
            beats.append(tuple(beat))
        return tuple(beats)


class Soonest(unittest.TestCase):
    def test_bound(self):
        doublings = {2: 1, 3: 2, 4: 2, 5: 3, 7: 3, 8: 3, 9: 4, 16: 4, 17: 5, 32: 5, 33: 6, 63: 6, 64: 6}
        for hands, many in doublings.items():
            for m in (1, 2, 60):
                same(self, bound(hands, m), m - 1 + many, hands, m)
        for hands in range(2, 65):
            many = 0
            while 2 ** many < hands:
                many += 1
            same(self, bound(hands, 1), many, hands)

    def test_no_plan_is_done_in_fewer(self):
        for hands, m in ((2, 1), (2, 2), (2, 3), (4, 1), (4, 2), (8, 1)):
            fewest = fewest_beats(hands, m)
            same(self, fewest, bound(hands, m), hands, m)
            q = hands.bit_length() - 1
            same(self, judged(hands, m, plan(q, m)), ("done", fewest), hands, m)
        for hands, m in ((3, 1), (3, 2), (5, 1)):
            self.assertGreaterEqual(fewest_beats(hands, m), bound(hands, m))


class Asking(unittest.TestCase):
    def test_by_places_and_by_names(self):
        check_asking(self, plan, {"q": 3, "m": 4}, source=5)
        check_asking(self, bound, {"hands": 12, "m": 4})
        check_asking(self, judged, {"hands": 4, "m": 2, "plan": plan(2, 2)}, source=1)
        check_asking(self, judged, {"hands": 4, "m": 2, "plan": plan(2, 2, source=1)}, source=1)
        check_asking(self, judged, {"hands": 4, "m": 2, "plan": ()}, source=2)

    def test_somewhat_beyond_the_limits_raises_nothing(self):
        plan(7, 3)
        bound(1, 1)
        bound(100, 100)
        judged(70, 61, (((0, 66, 60),),) * 210)
        judged(2, 1, (((0, 2, 0),), ((2, 1, 0),)))
        judged(2, 1, (((2, 1, 0),),), source=2)
        judged(2, 1, (((0, 1, 1),),))


if __name__ == "__main__":
    unittest.main()
