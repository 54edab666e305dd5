import functools
import math
import random
import re
import unittest

from beatferry.errors import NoText
from beatferry.house import House
from beatferry.plans import judged, plan
from beatferry.reading import read_house, read_plan
from beatferry.showing import show_house, show_plan
from helper import check_asking, check_refused, oddities, same

N = "(?:0|[1-9][0-9]{0,8})"
GREAT = 999999937


@functools.cache
def is_prime(n):
    return n > 1 and all(n % by for by in range(2, math.isqrt(n) + 1))


def numbers(row):
    return [int(word) for word in re.findall(r"[0-9]+", row)]


def written_plan(text):
    """What point 20 says of a text, row by row: (hands, m, plan, source), or the row that it is refused by."""
    if type(text) is not str:
        return 0
    rows = text.split("\n")
    if not re.fullmatch(f"plan {N} {N} {N}", rows[0]):
        return 0
    hands, m, source = numbers(rows[0])
    if hands not in range(2, 65) or m not in range(1, 61) or source not in range(hands):
        return 0
    beats = []
    for at, row in enumerate(rows[1:], 1):
        if at == 201:
            return at
        if row == "beat -":
            beats.append(())
            continue
        if not re.fullmatch(f"beat( {N}>{N}:{N})+", row):
            return at
        tellings = [tuple(numbers(word)) for word in row.split(" ")[1:]]
        tellers = [telling[0] for telling in tellings]
        if tellers != sorted(set(tellers)):
            return at
        for teller, hearer, letter in tellings:
            if teller >= hands or hearer >= hands or letter >= m:
                return at
        beats.append(tuple(tellings))
    return (hands, m, tuple(beats), source)


def written_house(text):
    """The row by which a house's text is refused as point 21 says, None where it is read."""
    if type(text) is not str:
        return 0
    rows = text.split("\n")
    if not re.fullmatch(f"house {N} {N} {N}", rows[0]):
        return 0
    q, p, k = numbers(rows[0])
    if q not in range(1, 7) or not q < p or not is_prime(p) or k not in range(1, q + 1):
        return 0
    at, ahead = 1, (-1, -1)
    while at < len(rows) and rows[at].split(" ")[0] in ("silent", "lie"):
        if re.fullmatch(f"silent {N}", rows[at]):
            place, more = (numbers(rows[at])[0], -1), 1
        elif re.fullmatch(f"lie {N} {N} {N}", rows[at]):
            hand, bit, more = numbers(rows[at])
            place = (hand, bit)
        else:
            return at
        if place[0] >= 2 ** q or place[1] >= q or not 1 <= more < p or place <= ahead:
            return at
        at, ahead = at + 1, place
    if at == len(rows):
        return None
    return written_telling(rows, at, q, p, k)


def written_telling(rows, at, q, p, k):
    if not re.fullmatch(f"telling {N} {N}", rows[at]):
        return at
    source, beats = numbers(rows[at])
    if source >= 2 ** q or beats > 21 * q:
        return at
    at, told = at + 1, 0
    while told < 20 and at < len(rows) and re.fullmatch(f"row( {N}){{{k}}}", rows[at]):
        if max(numbers(rows[at])) >= p:
            return at
        at, told = at + 1, told + 1
    if not told or at == len(rows):
        return at
    if not re.fullmatch(f"bad (-|{N}( {N})*)", rows[at]):
        return at
    bad = numbers(rows[at])
    if bad != sorted(set(bad)) or source in bad or (bad and bad[-1] >= 2 ** q):
        return at
    for hand in range(2 ** q):
        if hand == source:
            continue
        at += 1
        if at == len(rows) or not re.fullmatch(f"heard {hand}( (-|{N})){{{q * told}}}", rows[at]):
            return at
        if max(numbers(rows[at])[1:], default=0) >= p:
            return at
    return None if at + 1 == len(rows) else at + 1


WORDS = (
    "", "-", "0", "1", "2", "3", "4", "5", "6", "7", "00", "01", "-1", "+1", "1.", "1_0", "12", "63", "64", "126",
    "127", "999999937", "1000000000", "999999999", "0000000001", "x", "plan", "beat", "house", "silent", "lie",
    "telling", "row", "bad", "heard", "0>1:0", "1>0:0", "1>1:0", "0>1", "0:1", "0>1:", ">1:0", "0>:0", "0>1:0:0",
    "0>1>1:0", "00>1:0", "0>1:00", "0>1:60", "64>1:0", "\u0661", "\u00b2", "\uff11", "1\t", "\t1", "1\r", "\u00a01",
    "Beat", "HOUSE", "\x001")


def changed_rows(chance, rows):
    """The rows with one thing otherwise."""
    rows = list(rows)
    at = chance.randrange(len(rows))
    words = rows[at].split(" ")
    place = chance.randrange(len(words))
    how = chance.randrange(13)
    if how == 0:
        del rows[at]
        return rows or [""]
    if how == 1:
        rows.insert(chance.randrange(len(rows) + 1), rows[at])
    elif how == 2:
        other = chance.randrange(len(rows))
        rows[at], rows[other] = rows[other], rows[at]
    elif how == 3:
        rows = rows[:at + 1]
    elif how == 4:
        odd = chance.choice(("", " ", "-", "beat -", "bad -", "silent 1", "row 1", "x"))
        rows.insert(at + chance.randrange(2), odd)
    elif how == 5:
        rows[at] = chance.choice((" " + rows[at], rows[at] + " ", rows[at].replace(" ", "  ", 1), rows[at] + "\r",
                                  rows[at].replace(" ", "\t", 1), rows[at].upper(), rows[at].replace(" ", "\n", 1)))
    elif how == 6:
        del words[place]
        rows[at] = " ".join(words)
    elif how == 7:
        words.insert(place, words[chance.randrange(len(words))])
        rows[at] = " ".join(words)
    elif how == 8:
        other = chance.randrange(len(words))
        words[place], words[other] = words[other], words[place]
        rows[at] = " ".join(words)
    elif how in (9, 10) and re.fullmatch("[0-9]+", words[place]):
        more = chance.choice((1, -1, 2, 10, 64))
        words[place] = str(int(words[place]) + more)
        rows[at] = " ".join(words)
    elif how == 11 and rows[at]:
        letter = chance.randrange(len(rows[at]))
        put = chance.choice("0123456789>:- \n") * chance.randrange(3)
        rows[at] = rows[at][:letter] + put + rows[at][letter + 1:]
    else:
        words[place] = chance.choice(WORDS)
        rows[at] = " ".join(words)
    return rows


def changed(chance, text, times):
    for _ in range(times):
        text = "\n".join(changed_rows(chance, text.split("\n")))
    return text


def drawn_plan(chance):
    hands, m = chance.choice((2, 3, 4, 5, 17, 64)), chance.choice((1, 2, 9, 60))
    beats = []
    for _ in range(chance.randrange(6)):
        tellers = sorted(chance.sample(range(hands), chance.randrange(min(hands, 4) + 1)))
        beats.append(tuple((teller, chance.randrange(hands), chance.randrange(m)) for teller in tellers))
    return hands, m, tuple(beats), chance.randrange(hands)


def drawn_house(chance):
    """A house by drawn deeds."""
    q = chance.choice((1, 2, 2, 3, 3, 4))
    p = chance.choice((5, 7, 11, GREAT))
    house = House(q, p, chance.randrange(1, q + 1))
    k = int(show_house(house).split(" ")[3])
    drawn_deeds(chance, house, q, p, chance.randrange(4))
    for _ in range(chance.randrange(3)):
        source = chance.randrange(2 ** q)
        house.mend(source)
        house.tell(source, tuple(
            tuple(chance.randrange(p) for _ in range(k)) for _ in range(chance.choice((1, 1, 2, 20)))))
        beats = len(house.heard(0)) + q
        for _ in range(beats):
            house.step()
            drawn_deeds(chance, house, q, p, chance.randrange(2), source)
    if chance.randrange(2) and house.source() is not None:
        # Amid a telling.
        house.mend(0)
        house.tell(0, (house.rows(house.source())[0],) * 2)
        for _ in range(chance.randrange(3 * q)):
            house.step()
            drawn_deeds(chance, house, q, p, chance.randrange(2), 0)
    return house


def drawn_deeds(chance, house, q, p, many, source=None):
    others = [hand for hand in range(2 ** q) if hand != source]
    for _ in range(many):
        hand = chance.choice(others)
        deed = chance.randrange(4)
        if deed == 0:
            house.silence(hand)
        elif deed == 1:
            house.mend(hand)
        else:
            house.lie(hand, chance.randrange(q), chance.randrange(p))


class Plans(unittest.TestCase):
    def check(self, text):
        want = written_plan(text)
        if isinstance(want, int):
            check_refused(self, NoText, lambda: read_plan(text), want)
        else:
            same(self, read_plan(text), want, text)
            hands, m, beats, source = want
            same(self, show_plan(hands, m, beats, source=source), text, text)
        return want

    def test_by_hand(self):
        same(self, read_plan("plan 2 1 0"), (2, 1, (), 0))
        same(self, read_plan("plan 64 60 63"), (64, 60, (), 63))
        same(self, read_plan("plan 2 1 1\nbeat -"), (2, 1, ((),), 1))
        same(self, read_plan("plan 3 12 0\nbeat 0>1:11 2>2:3\nbeat -"), (3, 12, (((0, 1, 11), (2, 2, 3)), ()), 0))

    def test_refused_by_hand(self):
        for text, row in (
                ("", 0), ("plan", 0), ("plan 2 1", 0), ("plan 2 1 0 0", 0), ("plan 1 1 0", 0), ("plan 65 1 0", 0),
                ("plan 2 0 0", 0), ("plan 2 61 0", 0), ("plan 2 1 2", 0), ("plan 02 1 0", 0), ("plan 2 1 0 ", 0),
                (" plan 2 1 0", 0), ("plan  2 1 0", 0), ("beat -", 0), ("\nplan 2 1 0", 0), ("plan 2 1 -", 0),
                ("plan 2 1 0\n", 1), ("plan 2 1 0\nbeat", 1), ("plan 2 1 0\nbeat ", 1), ("plan 2 1 0\nbeat - -", 1),
                ("plan 2 1 0\nbeat - 0>1:0", 1), ("plan 2 1 0\nbeat 0>1:0 -", 1), ("plan 2 1 0\nbeat 0>1:1", 1),
                ("plan 2 1 0\nbeat 0>2:0", 1), ("plan 2 1 0\nbeat 2>0:0", 1), ("plan 2 1 0\nbeat 0>1:00", 1),
                ("plan 2 1 0\nbeat 1>0:0 0>1:0", 1), ("plan 2 1 0\nbeat 0>1:0 0>1:0", 1), ("plan 2 1 0\nbeats -", 1),
                ("plan 2 1 0\nbeat -\nplan 2 1 0", 2), ("plan 2 1 0\nbeat -\n", 2), ("plan 2 1 0\nbeat -\n\nbeat -", 2),
                ("plan 2 1 0\nbeat 0>1:0  1>0:0", 1), ("plan 2 1 0\r\nbeat -", 0), ("plan 2 1 0\nbeat -\r", 1),
                ("plan 2 1 0\nbeat 0 > 1 : 0", 1), ("plan 2 1 0\nbeat 0>1:0000000000", 1)):
            check_refused(self, NoText, lambda: read_plan(text), row)
            self.check(text)

    def test_hands_that_cannot_tell_are_written_all_the_same(self):
        # That it is wrong is for judged to say.
        same(self, read_plan("plan 3 1 0\nbeat 0>0:0 1>2:0 2>2:0"), (3, 1, (((0, 0, 0), (1, 2, 0), (2, 2, 0)),), 0))

    def test_beats(self):
        for many in (0, 1, 199, 200):
            text = "plan 2 1 0" + "\nbeat -" * many
            same(self, read_plan(text), (2, 1, ((),) * many, 0))
        for many in (201, 202, 500):
            check_refused(self, NoText, lambda: read_plan("plan 2 1 0" + "\nbeat -" * many), 201)
        check_refused(self, NoText, lambda: read_plan("plan 2 1 0" + "\nbeat -" * 200 + "\n"), 201)
        check_refused(self, NoText, lambda: read_plan("plan 2 1 0" + "\nbeat -" * 199 + "\nbeat" + "\nbeat -" * 9), 200)

    def test_no_text(self):
        for odd in [*oddities(), b"plan 2 1 0", ["plan 2 1 0"], ("plan 2 1 0",)]:
            before = repr(odd)
            check_refused(self, NoText, lambda: read_plan(odd), 0)
            self.assertEqual(repr(odd), before)

    def test_read_as_shown(self):
        for q, m, source in ((1, 1, 0), (2, 3, 1), (4, 7, 9), (6, 60, 63)):
            beats = plan(q, m, source=source)
            text = show_plan(2 ** q, m, beats, source=source)
            same(self, read_plan(text), (2 ** q, m, beats, source))
            self.check(text)
        hands, m, beats, source = read_plan(show_plan(8, 2, plan(3, 2)))
        same(self, judged(hands, m, beats, source=source), ("done", 4))
        chance = random.Random(201)
        for _ in range(300):
            hands, m, beats, source = drawn_plan(chance)
            text = show_plan(hands, m, beats, source=source)
            same(self, read_plan(text), (hands, m, beats, source))

    def test_one_or_two_things_otherwise(self):
        chance = random.Random(202)
        seen = {}
        for at in range(6000):
            hands, m, beats, source = drawn_plan(chance)
            text = changed(chance, show_plan(hands, m, beats, source=source), at % 2 + 1)
            want = self.check(text)
            key = want if isinstance(want, int) else "read"
            seen[key] = seen.get(key, 0) + 1
        self.assertTrue({"read", 0, 1, 2, 3} <= set(seen), seen)

    def test_each_head_and_beat(self):
        for first in range(0, 4):
            for second in range(0, 3):
                for third in range(0, 5):
                    self.check(f"plan {first} {second} {third}")
        for word in WORDS:
            for other in WORDS:
                self.check(f"plan 4 2 1\nbeat {word} {other}")
            self.check(f"plan 2 1 {word}")
            self.check(f"{word} 2 1 0")
            self.check(f"plan {word} 1 0")
            self.check(f"plan 2 {word} 0")
            self.check(f"plan 4 2 1\nbeat {word}")
            self.check(f"plan 4 2 1\n{word} 0>1:0")


class Houses(unittest.TestCase):
    def check(self, text):
        want = written_house(text)
        if want is None:
            house = read_house(text)
            self.assertIs(type(house), House)
            same(self, show_house(house), text)
            self.assertTrue(read_house(text) == house)
        else:
            check_refused(self, NoText, lambda: read_house(text), want)
        return want

    def test_a_new_one(self):
        self.assertTrue(read_house("house 1 2 1") == House(1, 2, 1))
        self.assertTrue(read_house("house 6 999999937 6") == House(6, GREAT, 6))

    def test_who_is_silent_or_lies(self):
        house = House(3, 7, 2)
        house.silence(2)
        house.lie(2, 0, 3)
        house.lie(2, 1, 6)
        house.lie(5, 1, 1)
        house.silence(7)
        text = "house 3 7 2\nsilent 2\nlie 2 0 3\nlie 2 1 6\nlie 5 1 1\nsilent 7"
        self.assertTrue(read_house(text) == house)
        same(self, read_house(text).source(), None)

    def test_a_telling(self):
        text = (
            "house 2 5 1\nsilent 1\nlie 3 0 2\ntelling 0 2\nrow 3\nrow 4\nbad 1 3\n"
            "heard 1 3 - - -\nheard 2 - 3 - -\nheard 3 - - - -")
        house = House(2, 5, 1)
        house.silence(1)
        house.tell(0, ((3,), (4,)))
        house.step()
        house.lie(3, 0, 2)
        house.step()
        read = read_house(text)
        self.assertTrue(read == house)
        for _ in range(4):
            read.step()
            house.step()
            self.assertTrue(read == house)
        same(self, [read.books(), read.blamed(2)], [house.books(), house.blamed(2)])

    def test_refused_by_hand(self):
        whole = "house 1 2 1\ntelling 0 0\nrow 1\nbad -\nheard 1 -"
        self.assertIs(type(read_house(whole)), House)
        for text, row in (
                ("", 0), ("house", 0), ("house 0 2 1", 0), ("house 7 11 1", 0), ("house 2 2 1", 0), ("house 2 4 1", 0),
                ("house 2 5 3", 0), ("house 2 5 0", 0), ("house 2 5", 0), ("house 2 5 1 1", 0), ("House 2 5 1", 0),
                ("house 2 1000000007 1", 0), ("house 2 05 1", 0), ("house 2 5 1 ", 0), (" house 2 5 1", 0),
                ("house 2 5 1\n", 1), ("house 2 5 1\nx", 1), ("house 2 5 1\nhouse 2 5 1", 1),
                ("house 2 5 1\nsilent 4", 1), ("house 2 5 1\nsilent", 1), ("house 2 5 1\nsilent -", 1),
                ("house 2 5 1\nlie 1 2 1", 1), ("house 2 5 1\nlie 1 0 0", 1), ("house 2 5 1\nlie 1 0 5", 1),
                ("house 2 5 1\nlie 4 0 1", 1), ("house 2 5 1\nlie 1 0", 1),
                ("house 2 5 1\nsilent 1\nsilent 1", 2), ("house 2 5 1\nsilent 2\nsilent 1", 2),
                ("house 2 5 1\nlie 1 0 1\nsilent 1", 2), ("house 2 5 1\nlie 1 1 1\nlie 1 0 1", 2),
                ("house 2 5 1\nlie 1 1 1\nlie 1 1 2", 2), ("house 2 5 1\nlie 2 0 1\nlie 1 1 1", 2),
                ("house 2 5 1\nbad -", 1), ("house 2 5 1\nrow 1", 1), ("house 2 5 1\nheard 1 -", 1),
                ("house 2 5 1\ntelling 4 0", 1), ("house 2 5 1\ntelling 0 43", 1), ("house 2 5 1\ntelling 0", 1),
                ("house 2 5 1\ntelling - 0", 1), ("house 2 5 1\ntelling 0 -", 1),
                ("house 1 2 1\ntelling 0 0", 2), ("house 1 2 1\ntelling 0 0\n", 2),
                ("house 1 2 1\ntelling 0 0\nbad -", 2), ("house 1 2 1\ntelling 0 0\nsilent 1", 2),
                ("house 1 2 1\ntelling 0 0\nrow 2", 2), ("house 1 2 1\ntelling 0 0\nrow", 2),
                ("house 1 2 1\ntelling 0 0\nrow -", 2), ("house 1 2 1\ntelling 0 0\nrow 1 1", 2),
                ("house 1 2 1\ntelling 0 0\nrow 1", 3), ("house 1 2 1\ntelling 0 0\nrow 1\nheard 1 -", 3),
                ("house 1 2 1\ntelling 0 0\nrow 1\nrow 2", 3), ("house 1 2 1\ntelling 0 0\nrow 1\nbad", 3),
                ("house 1 2 1\ntelling 0 0\nrow 1\nbad 0", 3), ("house 1 2 1\ntelling 0 0\nrow 1\nbad 2", 3),
                ("house 1 2 1\ntelling 0 0\nrow 1\nbad 1 1", 3), ("house 1 2 1\ntelling 0 0\nrow 1\nbad - 1", 3),
                ("house 1 2 1\ntelling 0 0\nrow 1\nbad 1", 4), ("house 1 2 1\ntelling 0 0\nrow 1\nbad -\nbad -", 4),
                ("house 1 2 1\ntelling 0 0\nrow 1\nbad -\nheard 0 1", 4),
                ("house 1 2 1\ntelling 0 0\nrow 1\nbad -\nheard 1", 4),
                ("house 1 2 1\ntelling 0 0\nrow 1\nbad -\nheard 1 2", 4),
                ("house 1 2 1\ntelling 0 0\nrow 1\nbad -\nheard 1 - -", 4),
                ("house 1 2 1\ntelling 0 0\nrow 1\nbad -\nheard 01 -", 4),
                (whole + "\n", 5), (whole + "\nheard 1 -", 5), (whole + "\nsilent 1", 5), (whole + " ", 4)):
            check_refused(self, NoText, lambda: read_house(text), row)
            self.check(text)

    def test_as_many_rows_as_may_be(self):
        for many in range(0, 24):
            heard = "\nheard 0" + " -" * many
            text = "house 1 2 1\ntelling 1 0" + "\nrow 1" * many + "\nbad -" + heard
            if 1 <= many <= 20:
                same(self, read_house(text).rows(1), ((1,),) * many)
            else:
                check_refused(self, NoText, lambda: read_house(text), 2 if many == 0 else 22)
            self.check(text)

    def test_each_row_left_out_at_the_end(self):
        text = show_house(self.bad_house())
        rows = text.split("\n")
        for many in range(1, len(rows) + 1):
            self.check("\n".join(rows[:many]))
        heads = [at for at, row in enumerate(rows) if row.startswith("telling")]
        for many in range(heads[0] + 1, len(rows)):
            check_refused(self, NoText, lambda: read_house("\n".join(rows[:many])), many)

    def bad_house(self):
        house = House(3, 7, 2)
        house.silence(2)
        house.lie(2, 1, 3)
        house.lie(5, 2, 1)
        house.tell(4, ((1, 2), (3, 4)))
        for _ in range(5):
            house.step()
        return house

    def test_beyond_the_last_beat(self):
        for beats in range(0, 24):
            text = f"house 1 2 1\ntelling 0 {beats}\nrow 1\nbad -\nheard 1 1"
            self.check(text)
            if beats <= 21:
                house = read_house(text)
                same(self, [house.beat(), house.source(), house.heard(1)], [beats, 0, (1,)])
                same(self, show_house(house.copy()), text)
                self.assertTrue(house == house.copy())

    def test_houses_that_no_deeds_lead_to(self):
        for text in (
                "house 1 2 1\nsilent 0\ntelling 0 1\nrow 1\nbad -\nheard 1 -",
                "house 1 2 1\nlie 0 0 1\nsilent 1\ntelling 0 0\nrow 1\nrow 0\nbad 1\nheard 1 0 1",
                "house 2 3 2\ntelling 3 42\nrow 1 2\nbad 0 1 2\nheard 0 - 1\nheard 1 2 -\nheard 2 - -"):
            same(self, self.check(text), None)

    def test_no_text(self):
        for odd in [*oddities(), b"house 1 2 1", ["house 1 2 1"], ("house 1 2 1",), House(1, 2, 1)]:
            check_refused(self, NoText, lambda: read_house(odd), 0)

    def test_read_as_shown(self):
        chance = random.Random(203)
        for _ in range(120):
            house = drawn_house(chance)
            text = show_house(house)
            read = read_house(text)
            self.assertTrue(read == house)
            self.assertTrue(read == house.copy())
            same(self, show_house(read), text)
            same(self, self.check(text), None)

    def test_one_or_two_things_otherwise(self):
        chance = random.Random(204)
        seen = {}
        texts = [show_house(drawn_house(chance)) for _ in range(120)] + ["house 2 5 1\nsilent 1\nlie 1 0 2\nsilent 3"]
        texts = [text for text in texts if len(text) < 3000]
        for at in range(9000):
            want = self.check(changed(chance, chance.choice(texts), at % 2 + 1))
            seen[want] = seen.get(want, 0) + 1
        self.assertTrue({None, 0, 1, 2, 3, 4, 5, 6, 7, 8} <= set(seen), seen)

    def test_each_word_otherwise(self):
        for text in (
                "house 2 5 1\nsilent 1\nlie 1 0 2\ntelling 3 2\nrow 1\nrow 4\nbad 1 2\n"
                "heard 0 - 1 - 2\nheard 1 - - - -\nheard 2 4 3 2 1",
                "house 1 7 1\nlie 0 0 2\ntelling 1 1\nrow 1\nbad -\nheard 0 6"):
            rows = text.split("\n")
            for at, row in enumerate(rows):
                words = row.split(" ")
                for place in range(len(words)):
                    for word in WORDS:
                        other = " ".join(words[:place] + [word] + words[place + 1:])
                        self.check("\n".join(rows[:at] + [other] + rows[at + 1:]))


class Asking(unittest.TestCase):
    def test_by_places_and_by_names(self):
        check_asking(self, read_plan, {"text": "plan 2 1 0\nbeat 0>1:0"})
        self.assertTrue(read_house(text="house 2 5 1\nsilent 1") == read_house("house 2 5 1\nsilent 1"))

    def test_each_is_of_its_own(self):
        text = "house 2 5 1\nsilent 1"
        one, other = read_house(text), read_house(text)
        one.mend(1)
        same(self, [show_house(one), show_house(other)], ["house 2 5 1", text])


if __name__ == "__main__":
    unittest.main()
