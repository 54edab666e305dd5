"""A desk: a house asked and told by lines."""

from beatferry.errors import NoLetter, NoLine, NoTree
from beatferry.reading import numbers_in, read_house
from beatferry.showing import show_house, spelt
from beatferry.trees import delay, way

MOST_BLAMED = 3


def do_silence(house, numbers):
    """Silences a hand."""
    house.silence(numbers[0])
    return "done"


def do_lie(house, numbers):
    """Makes a hand lie by a bit."""
    hand, bit, more = numbers
    house.lie(hand, bit, more)
    return "done"


def do_mend(house, numbers):
    """Mends a hand."""
    house.mend(numbers[0])
    return "done"


def do_step(house, numbers):
    """Goes a beat on."""
    house.step()
    return "done"


def do_beats(house, numbers):
    """Goes so many beats on, as many as there are."""
    done = 0
    while done < numbers[0] and house.is_under_way():
        house.step()
        done += 1
    return str(done)


def say_heard(house, numbers):
    """What the hand heard."""
    return spelt(house.heard(numbers[0]))


def say_rows(house, numbers):
    """The rows that are told to the hand."""
    rows = house.rows(numbers[0])
    return spelt([None if row is None else ",".join([str(number) for number in row]) for row in rows])


def say_bad(house, numbers):
    """Who was bad."""
    return spelt(house.bad())


def say_blamed(house, numbers):
    """Who is surely bad where at most so many are."""
    lot = house.blamed(numbers[0])
    return "none" if lot is None else spelt(lot)


def say_when(house, numbers):
    """The beat at which the letter comes to the hand."""
    hand, letter = numbers
    many = len(house.heard(hand))
    source = house.source()
    if source is None:
        return "-"
    if letter >= many:
        raise NoLetter(letter)
    if hand == source:
        return "-"
    return str(letter + delay(house.q, hand, letter % house.q, source=source))


def say_way(house, numbers):
    """The hands by which letters of the tree come to the hand."""
    hand, tree = numbers
    house.check_hand(hand)
    if tree >= house.q:
        raise NoTree(tree)
    source = house.source()
    if source is None:
        return "-"
    return spelt(way(house.q, hand, tree, source=source))


def say_text(house, numbers):
    """The house's text in one line."""
    return show_house(house).replace("\n", " | ")


# How many numbers stand behind each word; tell, which has rows, isn't among them.
NUMBERS = {
    "silence": 1, "lie": 3, "mend": 1, "step": 0, "beats": 1, "heard": 1, "rows": 1,
    "bad": 0, "blamed": 1, "when": 2, "way": 2, "text": 0,
}

ANSWERS = {
    "silence": do_silence, "lie": do_lie, "mend": do_mend, "step": do_step, "beats": do_beats,
    "heard": say_heard, "rows": say_rows, "bad": say_bad, "blamed": say_blamed,
    "when": say_when, "way": say_way, "text": say_text,
}


def is_form(word, numbers, rows):
    """Whether a line may have this word, these numbers behind it and these rows of numbers."""
    if numbers is None or None in rows:
        return False
    if word == "tell":
        return len(numbers) == 1
    if word not in NUMBERS or NUMBERS[word] != len(numbers) or len(rows) > 0:
        return False
    return word != "blamed" or numbers[0] <= MOST_BLAMED


class Desk:
    """A desk over the house that a text writes."""

    def __init__(self, text):
        self.house = read_house(text)

    def say(self, line):
        """Does or answers what the line says."""
        if not isinstance(line, str):
            raise NoLine(line)
        head, *parts = line.split(" / ")
        word, *words = head.split(" ")
        numbers = numbers_in(words)
        rows = [numbers_in(part.split(" ")) for part in parts]
        if not is_form(word, numbers, rows):
            raise NoLine(line)
        if word == "tell":
            self.house.tell(numbers[0], tuple(rows))
            return "done"
        answer = ANSWERS[word]
        return answer(self.house, numbers)
