"""Texts read as plans and houses."""

from beatferry.errors import BadHouse, NoText
from beatferry.house import House, MOST_ROWS
from beatferry.kinds import is_field_number, is_hand, is_lot_beside, is_row

MOST_FIGURES = 9
MOST_BEATS = 200
MOST_HANDS = 64
MOST_LETTERS = 60
SILENT = -1


def number_in(word):
    """The number that the word writes, None where it writes none."""
    if not word.isascii() or not word.isdigit() or len(word) > MOST_FIGURES:
        return None
    if word.startswith("0") and word != "0":
        return None
    return int(word)


def numbers_in(words):
    """The tuple of the numbers that the words write, None where one of them writes none."""
    numbers = tuple([number_in(word) for word in words])
    return None if None in numbers else numbers


def rows_of(text):
    """The rows of a text."""
    if not isinstance(text, str):
        raise NoText(0)
    return text.split("\n")


def words_at(rows, at, first):
    """The words behind the first one of row number at, None where there is no row that begins so."""
    if at >= len(rows):
        return None
    word, *words = rows[at].split(" ")
    return words if word == first else None


def numbers_at(rows, at, first, many):
    """The so many numbers behind the first word of row number at, None where it isn't so written."""
    words = words_at(rows, at, first)
    if words is None or len(words) != many:
        return None
    return numbers_in(words)


def read_plan(text):
    """What a plan's text writes: how many hands and letters, the plan, the source."""
    rows = rows_of(text)
    head = numbers_at(rows, 0, "plan", 3)
    if head is None:
        raise NoText(0)
    hands, m, source = head
    if not 2 <= hands <= MOST_HANDS or not 1 <= m <= MOST_LETTERS or source >= hands:
        raise NoText(0)
    beats = []
    for at in range(1, len(rows)):
        beat = beat_in(words_at(rows, at, "beat"), hands, m)
        if beat is None or at > MOST_BEATS:
            raise NoText(at)
        beats.append(beat)
    return (hands, m, tuple(beats), source)


def beat_in(words, hands, m):
    """The tuple of the tellings that the words write, None where they write none."""
    if words is None or len(words) == 0:
        return None
    if words == ["-"]:
        return ()
    tellings = [telling_in(word) for word in words]
    if not all([telling is not None and can_be(telling, hands, m) for telling in tellings]):
        return None
    if not all([one[0] < other[0] for one, other in zip(tellings, tellings[1:])]):
        return None
    return tuple(tellings)


def telling_in(word):
    """The (teller, hearer, letter) that the word writes, None where it writes none."""
    teller, arrow, behind = word.partition(">")
    hearer, colon, letter = behind.partition(":")
    return numbers_in((teller, hearer, letter))


def can_be(telling, hands, m):
    """Whether teller, hearer and letter are some of these."""
    teller, hearer, letter = telling
    return teller < hands and hearer < hands and letter < m


def read_house(text):
    """The house whose text it is."""
    rows = rows_of(text)
    house = house_in(numbers_at(rows, 0, "house", 3))
    at = read_untrue(house, rows)
    if at < len(rows):
        read_telling(house, rows, at)
    return house


def house_in(head):
    """A house of the numbers of its first row."""
    if head is None:
        raise NoText(0)
    q, p, k = head
    try:
        return House(q, p, k)
    except BadHouse:
        raise NoText(0) from None


def read_untrue(house, rows):
    """Makes silent and lying who is so by the rows behind the first; tells which row comes behind these."""
    at = 1
    ahead = (SILENT, SILENT)
    deed = deed_at(house, rows, at)
    while deed is not None and ahead < deed[:2]:
        hand, bit, more = deed
        if bit == SILENT:
            house.silence(hand)
        else:
            house.lie(hand, bit, more)
        ahead = (hand, bit)
        at += 1
        deed = deed_at(house, rows, at)
    return at


def deed_at(house, rows, at):
    """(hand, bit, more) of a row that is a lie's, SILENT for the bit of a silent one's, None of any other."""
    silent = numbers_at(rows, at, "silent", 1)
    if silent is not None and is_hand(house.q, silent[0]):
        return (silent[0], SILENT, 0)
    lie = numbers_at(rows, at, "lie", 3)
    if lie is not None and is_hand(house.q, lie[0]) and lie[1] < house.q and 0 < lie[2] < house.p:
        return lie
    return None


def read_telling(house, rows, at):
    """Takes up the telling of the rows from this one on, which must be all."""
    head = numbers_at(rows, at, "telling", 2)
    if head is None or not is_hand(house.q, head[0]) or head[1] > (MOST_ROWS + 1) * house.q:
        raise NoText(at)
    source, beats = head
    told = told_from(house, rows, at + 1)
    # The row that isn't there and the first that can't stand have the same number.
    behind = at + 1 + len(told)
    bad = bad_in(house, source, words_at(rows, behind, "bad"))
    if len(told) == 0 or bad is None:
        raise NoText(behind)
    heard = heard_from(house, rows, behind + 1, source, house.q * len(told))
    if behind + house.hands() < len(rows):
        raise NoText(behind + house.hands())
    house.take_up(source, told, beats, bad, heard)


def told_from(house, rows, at):
    """The tuple of the rows of numbers that stand from this row on."""
    told = []
    row = numbers_at(rows, at, "row", house.k)
    while is_row(house.p, house.k, row) and len(told) < MOST_ROWS:
        told.append(row)
        row = numbers_at(rows, at + len(told), "row", house.k)
    return tuple(told)


def bad_in(house, source, words):
    """The lot that the words write, None where they write none without the source."""
    if words is None or len(words) == 0:
        return None
    if words == ["-"]:
        return ()
    lot = numbers_in(words)
    return lot if is_lot_beside(house.q, house.hands(), (source,), lot) else None


def heard_from(house, rows, at, source, many):
    """For each hand what it heard of so many letters, by the rows from this one on; () for the source."""
    heard = []
    row = at
    for hand in range(house.hands()):
        if hand == source:
            heard.append(())
            continue
        numbers = heard_in(house.p, hand, many, words_at(rows, row, "heard"))
        if numbers is None:
            raise NoText(row)
        heard.append(numbers)
        row += 1
    return heard


def heard_in(p, hand, many, words):
    """The tuple of what the hand heard of so many letters, None where the words don't write that."""
    if words is None or len(words) != many + 1 or number_in(words[0]) != hand:
        return None
    if not all([word == "-" or is_field_number(p, number_in(word)) for word in words[1:]]):
        return None
    # A dash writes no number, so None stands for it.
    return tuple([number_in(word) for word in words[1:]])
