import random
import re
import unittest

from beatferry.desk import Desk
from beatferry.errors import (
    Bad, BadRows, Busy, Gone, Idle, NoBit, NoHand, NoLetter, NoLine, NoNumber, NoText, NoTree, NotSo)
from beatferry.house import House
from beatferry.reading import read_house
from beatferry.showing import show_house
from helper import alike, check_refused, comes, oddities, same, written_way

N = "(0|[1-9][0-9]{0,8})"
FORMS = [re.compile(form) for form in (
    f"tell {N}( /( {N})+)*", f"silence {N}", f"lie {N} {N} {N}", f"mend {N}", "step", f"beats {N}", f"heard {N}",
    f"rows {N}", "bad", "blamed [0-3]", f"when {N} {N}", f"way {N} {N}", "text")]


def is_form(line):
    return isinstance(line, str) and any(form.fullmatch(line) for form in FORMS)


def spelt(some):
    return " ".join("-" if one is None else str(one) for one in some) if some else "-"


class WrittenDesk:
    """What point 22 says of a line of one of the forms, by a house beside it."""

    def __init__(self, text):
        self.house = read_house(text)
        self.q = int(text.split("\n")[0].split(" ")[1])

    def hand(self, hand):
        if hand >= 2 ** self.q:
            raise NoHand(hand)

    def say(self, line):
        word, *words = line.split(" ")
        house, source = self.house, self.house.source()
        if word == "tell":
            rows = [part.split(" ") for part in line.split(" / ")[1:]]
            house.tell(int(words[0]), tuple(tuple(int(number) for number in row) for row in rows))
            return "done"
        numbers = [int(one) for one in words]
        if word in ("silence", "lie", "mend", "step"):
            getattr(house, word)(*numbers)
            return "done"
        if word == "beats":
            return str(self.beats(numbers[0]))
        if word == "text":
            return " | ".join(show_house(house).split("\n"))
        if word in ("heard", "rows", "when", "way"):
            self.hand(numbers[0])
        if word == "way" and numbers[1] >= self.q:
            raise NoTree(numbers[1])
        if source is None:
            return "-"
        return self.told(word, numbers, source)

    def beats(self, most):
        done = 0
        try:
            while done < most:
                self.house.step()
                done += 1
        except Idle:
            pass
        return done

    def told(self, word, numbers, source):
        house = self.house
        if word == "heard":
            return spelt(house.heard(*numbers))
        if word == "rows":
            return spelt([row and ",".join(map(str, row)) for row in house.rows(*numbers)])
        if word == "bad":
            return spelt(house.bad())
        if word == "blamed":
            lot = house.blamed(*numbers)
            return "none" if lot is None else spelt(lot)
        if word == "way":
            return spelt(written_way(self.q, *numbers, source))
        hand, letter = numbers
        if letter >= len(house.heard(source)):
            raise NoLetter(letter)
        return "-" if hand == source else str(comes(self.q, hand, letter, source))


def outcome(ask):
    """What is told, or the class and the values of the refusal."""
    try:
        return ask()
    except (NotSo, Gone) as error:
        return (type(error).__name__, list(vars(error).values()))


class Lines(unittest.TestCase):
    def test_by_hand(self):
        desk = Desk("house 2 5 1")
        for line, want in (
                ("text", "house 2 5 1"), ("heard 3", "-"), ("rows 3", "-"), ("bad", "-"), ("blamed 2", "-"),
                ("when 3 0", "-"), ("when 3 999999999", "-"), ("way 3 0", "-"), ("beats 5", "0"), ("beats 0", "0"),
                ("silence 1", "done"), ("lie 2 0 3", "done"), ("lie 2 0 0", "done"), ("lie 1 1 4", "done"),
                ("text", "house 2 5 1 | silent 1 | lie 1 1 4"),
                ("tell 0 / 3 / 4", "done"),
                ("text", "house 2 5 1 | silent 1 | lie 1 1 4 | telling 0 0 | row 3 | row 4 | bad - | heard 1 - - - - "
                         "| heard 2 - - - - | heard 3 - - - -"),
                ("heard 3", "- - - -"), ("heard 0", "3 3 4 4"), ("rows 3", "- -"), ("rows 0", "3 4"), ("bad", "-"),
                ("blamed 0", "-"), ("step", "done"), ("bad", "1"), ("beats 2", "2"), ("heard 3", "- 3 - -"),
                ("rows 3", "3 -"), ("rows 1", "- -"), ("blamed 0", "none"), ("blamed 1", "-"), ("mend 1", "done"),
                ("beats 999999999", "3"), ("beats 4", "0"), ("bad", "1"), ("heard 3", "- 3 4 4"), ("rows 3", "3 4"),
                ("when 3 0", "1"), ("when 3 1", "2"), ("when 3 3", "4"), ("when 1 1", "3"), ("when 0 1", "-"),
                ("way 3 0", "0 1 3"), ("way 3 1", "0 2 3"), ("way 2 0", "0 1 3 2"), ("way 0 1", "0 2 0"),
                ("way 1 0", "0 1"),
                ("text", "house 2 5 1 | telling 0 6 | row 3 | row 4 | bad 1 | heard 1 3 3 4 4 | heard 2 - 3 4 4 "
                         "| heard 3 - 3 4 4")):
            same(self, desk.say(line), want, line)

    def test_rows_of_several_numbers(self):
        desk = Desk("house 3 7 2")
        same(self, [desk.say("tell 5 / 1 2 / 3 6 / 0 0"), desk.say("rows 5")], ["done", "1,2 3,6 0,0"])
        same(self, [desk.say("beats 7"), desk.say("rows 2"), desk.say("rows 4")], ["7", "1,2 - -", "1,2 - -"])
        same(self, [desk.say("beats 100"), desk.say("rows 2"), desk.say("bad")], ["5", "1,2 3,6 0,0", "-"])

    def test_blamed(self):
        # Of two rounds the first is told right: then hand 1 lies, and only it is on all ways accused.
        desk = Desk("house 3 7 1")
        for line in ("tell 0 / 3 / 4", "lie 1 1 2", "lie 1 2 2", "lie 1 0 2", "beats 20"):
            desk.say(line)
        same(self, [desk.say("bad"), desk.say("blamed 0"), desk.say("blamed 1")], ["1", "none", "1"])

    def test_begun_amid(self):
        desk = Desk("house 1 2 1\ntelling 0 1\nrow 1\nrow 0\nbad -\nheard 1 1 -")
        same(self, [desk.say("heard 1"), desk.say("beats 9"), desk.say("heard 1"), desk.say("rows 1")],
             ["1 -", "2", "1 0", "1 0"])

    def test_beyond_the_last_beat(self):
        text = "house 1 2 1\ntelling 0 21\nrow 1\nbad -\nheard 1 -"
        desk = Desk(text)
        same(self, [desk.say("beats 3"), desk.say("text")], ["0", text.replace("\n", " | ")])


class Made(unittest.TestCase):
    def test_refused_as_read_house_does(self):
        for text, row in (
                ("", 0), ("house 2 4 1", 0), ("house 2 5 1\n", 1), ("house 2 5 1\nsilent 1\nsilent 1", 2),
                ("house 1 2 1\ntelling 0 0\nrow 1\nbad -", 4), ("house 2 5 1 | silent 1", 0)):
            check_refused(self, NoText, lambda: Desk(text), row)
        for odd in oddities():
            check_refused(self, NoText, lambda: Desk(odd), 0)
        check_refused(self, NoText, lambda: Desk(House(1, 2, 1)), 0)

    def test_each_of_its_own(self):
        one, other = Desk("house 2 5 1"), Desk(text="house 2 5 1")
        one.say("silence 1")
        same(self, [one.say("text"), other.say(line="text")], ["house 2 5 1 | silent 1", "house 2 5 1"])

    def test_the_methods_are_its_own(self):
        for name in ("__init__", "say"):
            self.assertIn(name, vars(Desk))


def desks():
    """Desks without, amid and behind a telling, with bad hands."""
    for lines in (
            [], ["silence 3", "lie 1 0 2"], ["silence 3", "lie 1 0 2", "tell 2 / 1 2 / 3 4", "beats 2"],
            ["tell 2 / 1 2", "lie 1 0 2", "beats 99"]):
        desk = Desk("house 2 5 2")
        for line in lines:
            desk.say(line)
        yield desk


class Refused(unittest.TestCase):
    def refused(self, desk, line, kind, *values):
        before = desk.say("text")
        with self.assertRaises(kind) as caught:
            desk.say(line)
        self.assertIs(type(caught.exception), kind)
        same(self, list(vars(caught.exception).values()), list(values), line)
        same(self, desk.say("text"), before)

    def no_line(self, desk, line):
        before = desk.say("text")
        check_refused(self, NoLine, lambda: desk.say(line), line)
        same(self, desk.say("text"), before)

    def test_no_line_by_hand(self):
        for desk in desks():
            for line in (
                    "", " ", "-", "x", "tell", "tell ", "tell x", "tell 0 1", "tell 0 /", "tell 0 / ", "tell 0 / / 1 2",
                    "tell 0 / 1 2 /", "tell 0 / 1 2 / ", "tell 0/ 1 2", "tell 0 /1 2", "tell 0 / 1  2", "tell 0 / 1 -",
                    "tell 0 / 01 2", "tell / 1 2", "tell 0 1 / 1 2", "tell 0 / 1 2 / x", "tell 0 / 1,2", "Tell 0",
                    "tell 0 // 1 2", "tell 0  / 1 2", "tell 0 /  1 2", "tell 0 / 1000000000 2", "tell 0 / 1 2\n",
                    "silence", "silence 1 2", "silence -", "silence 01", "silence 1 ", " silence 1", "silence  1",
                    "silence 1000000000", "silence 0000000001", "silence +1", "silence -1", "silence 1 / 2",
                    "silence / 1", "lie", "lie 1", "lie 1 0", "lie 1 0 1 1", "lie 1 0 -", "mend", "mend 1 1", "mend x",
                    "step 1", "step ", "steps", "STEP", "step\n", "step\t", "step / 1", "beats", "beats -", "beats 1 1",
                    "beats x", "heard",
                    "heard 1 1", "heard -", "rows", "rows 1 0", "bad 1", "bad -", "blamed", "blamed 4", "blamed 00",
                    "blamed 1 1", "blamed 999999999", "blamed -1", "when", "when 1", "when 1 1 1", "when - 1", "way",
                    "way 1", "way 1 1 1", "text 1", "text | text", "texts", "heard \u0661", "heard \u00b2", "heard 1\r",
                    "heard\t1", "heard\u00a01", "beat", "source", "copy", "hands", "books", "done", "none"):
                self.no_line(desk, line)
                self.assertFalse(is_form(line), line)

    def test_no_line_of_anything(self):
        for desk in desks():
            for odd in [*oddities(), b"step", ["step"], ("step",), {"step": 1}]:
                self.no_line(desk, odd)

    def test_ahead_of_all(self):
        # None of these is refused as the house would, though that would be due, too.
        desk = Desk("house 2 5 2")
        for line in ("silence 9 9", "heard 9 9", "way 9 9 9", "tell 9 / 1 2 /", "blamed 9", "lie 9 9 9 9", "step 0"):
            self.no_line(desk, line)

    def test_tell(self):
        desk = Desk("house 2 5 2\nlie 1 0 1\nsilent 3")
        self.refused(desk, "tell 0", BadRows, ())
        self.refused(desk, "tell 4", NoHand, 4)
        self.refused(desk, "tell 4 / 1", NoHand, 4)
        self.refused(desk, "tell 0 / 1", BadRows, ((1,),))
        self.refused(desk, "tell 0 / 1 2 / 1 2 3", BadRows, ((1, 2), (1, 2, 3)))
        self.refused(desk, "tell 0 / 1 5", BadRows, ((1, 5),))
        self.refused(desk, "tell 3 / 1 5", BadRows, ((1, 5),))
        self.refused(desk, "tell 0" + " / 1 2" * 21, BadRows, ((1, 2),) * 21)
        self.refused(desk, "tell 3 / 1 2", Bad, 3)
        self.refused(desk, "tell 1 / 1 2", Bad, 1)
        desk.say("tell 0" + " / 1 2" * 20)
        self.refused(desk, "tell 0 / 1 2", Busy)
        self.refused(desk, "tell 3 / 1 2", Busy)
        self.refused(desk, "tell 3", BadRows, ())
        same(self, desk.say("beats 999999999"), "42")
        same(self, desk.say("tell 0 / 1 2"), "done")

    def test_deeds(self):
        for desk in desks():
            for word in ("silence", "mend", "heard", "rows"):
                for hand in (4, 5, 999999999):
                    self.refused(desk, f"{word} {hand}", NoHand, hand)
            self.refused(desk, "lie 4 2 5", NoHand, 4)
            self.refused(desk, "lie 0 2 5", NoBit, 2)
            self.refused(desk, "lie 0 1 5", NoNumber, 5)
        desk = Desk("house 2 5 2")
        self.refused(desk, "step", Idle)
        desk.say("tell 2 / 1 2")
        self.refused(desk, "silence 2", Bad, 2)
        self.refused(desk, "lie 2 0 1", Bad, 2)
        same(self, [desk.say("lie 2 0 0"), desk.say("mend 2"), desk.say("beats 4")], ["done", "done", "4"])
        self.refused(desk, "step", Idle)
        same(self, desk.say("silence 2"), "done")

    def test_when_and_way(self):
        for desk in desks():
            self.refused(desk, "when 4 0", NoHand, 4)
            self.refused(desk, "when 4 999", NoHand, 4)
            self.refused(desk, "way 4 0", NoHand, 4)
            self.refused(desk, "way 4 9", NoHand, 4)
            self.refused(desk, "way 0 2", NoTree, 2)
            self.refused(desk, "way 2 9", NoTree, 9)
        fresh, silent, amid, behind = desks()
        for desk in (fresh, silent):
            same(self, [desk.say("when 0 999"), desk.say("way 0 1")], ["-", "-"])
        for hand in range(4):
            self.refused(amid, f"when {hand} 4", NoLetter, 4)
            self.refused(behind, f"when {hand} 2", NoLetter, 2)
        same(self, [amid.say("when 2 3"), behind.say("when 2 1")], ["-", "-"])
        same(self, [amid.say("when 0 3"), behind.say("when 0 1")], ["3", "1"])


class BesideAHouse(unittest.TestCase):
    """Drawn lines, against a house that is asked straight."""

    def drawn_line(self, chance, q, p, k):
        def hand():
            return chance.choice((0, 1, 2 ** q - 1, chance.randrange(2 ** q), chance.randrange(2 ** q + 1)))

        def row():
            many = k if chance.randrange(12) else chance.randrange(1, q + 2)
            return " ".join(str(chance.randrange(p + (chance.randrange(20) == 0))) for _ in range(many))

        word = chance.choice((
            "tell", "tell", "silence", "lie", "lie", "mend", "mend", "step", "step", "step", "beats", "heard", "rows",
            "bad", "blamed", "when", "way", "text"))
        if word == "tell":
            return " / ".join([f"tell {hand()}"] + [row() for _ in range(chance.choice((0, 1, 1, 2, 2, 3)))])
        if word == "lie":
            return f"lie {hand()} {chance.randrange(q + 1)} {chance.choice((0, 1, p - 1, p, chance.randrange(p)))}"
        if word in ("step", "bad", "text"):
            return word
        if word == "beats":
            return f"beats {chance.choice((0, 1, 2, q, 5 * q))}"
        if word == "blamed":
            return f"blamed {chance.randrange(3)}"
        if word == "when":
            return f"when {hand()} {chance.randrange(3 * q + 1)}"
        if word == "way":
            return f"way {hand()} {chance.randrange(q + 1)}"
        return f"{word} {hand()}"

    def spoiled_line(self, chance, line):
        """The line with one thing otherwise."""
        at = chance.randrange(len(line) + 1)
        put = chance.choice((" ", "/", "0", "1", "-", "x", ",", "\n", ""))
        return line[:at] + put + line[at + chance.randrange(2):]

    def test_drawn(self):
        chance = random.Random(221)
        seen = set()
        for at in range(60):
            q = at % 4 + 1
            p = chance.choice((5, 7, 11, 999999937))
            k = chance.randrange(1, q + 1)
            text = f"house {q} {p} {k}"
            desk, written = Desk(text), WrittenDesk(text)
            for _ in range(80):
                line = self.drawn_line(chance, q, p, k)
                if chance.randrange(5) == 0:
                    line = self.spoiled_line(chance, line)
                if not is_form(line):
                    check_refused(self, NoLine, lambda: desk.say(line), line)
                    continue
                got, want = outcome(lambda: desk.say(line)), outcome(lambda: written.say(line))
                if not alike(got, want):
                    self.fail(f"{line!r}: {got!r} is not {want!r}, of {desk.say('text')!r}")
                seen.add(want[0] if isinstance(want, tuple) else line.split(" ")[0])
            same(self, desk.say("text"), written.say("text"))
        self.assertTrue({
            "tell", "silence", "lie", "mend", "step", "beats", "heard", "rows", "bad", "blamed", "when", "way", "text",
            "NoHand", "BadRows", "Busy", "Bad", "NoBit", "NoNumber", "Idle", "NoTree", "NoLetter"} <= seen, seen)

    def test_every_spoiled_line(self):
        lines = (
            "tell 0 / 1 2 / 3 4", "tell 0", "silence 1", "lie 1 0 2", "mend 1", "step", "beats 10", "heard 1", "rows 1",
            "bad", "blamed 3", "when 1 2", "way 3 1", "text")
        for line in lines:
            for at in range(len(line) + 1):
                for put in (" ", "/", "0", "9", "-", "a", "\n", "", " / ", " 1", "\t", "|"):
                    for behind in (at, at + 1):
                        other = line[:at] + put + line[behind:]
                        desk = Desk("house 2 5 2")
                        if is_form(other):
                            written = WrittenDesk("house 2 5 2")
                            same(self, outcome(lambda: desk.say(other)), outcome(lambda: written.say(other)), other)
                        else:
                            check_refused(self, NoLine, lambda: desk.say(other), other)


if __name__ == "__main__":
    unittest.main()
