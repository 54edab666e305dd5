"""The refusals: what is not so, and what is not there."""


class NotSo(ValueError):
    """Something handed in, or asked for now, is not as it must be."""


class Gone(LookupError):
    """Something named, or waited for, is not there."""


class NoInverse(NotSo):
    """A number of which no product is 1."""

    def __init__(self, number):
        self.number = number


class TooFew(NotSo):
    """Fewer pairs than a row has numbers."""

    def __init__(self, many):
        self.many = many


class BadNumbers(NotSo):
    """No numbers of all hands."""

    def __init__(self, thing):
        self.thing = thing


class BadHouse(NotSo):
    """Nothing that a house can be made of."""

    def __init__(self, thing):
        self.thing = thing


class BadRows(NotSo):
    """No rows that can be told."""

    def __init__(self, thing):
        self.thing = thing


class NoNumber(NotSo):
    """No number of the field."""

    def __init__(self, thing):
        self.thing = thing


class NoText(NotSo):
    """A text that isn't so written, by its first such row."""

    def __init__(self, row):
        self.row = row


class NoLine(NotSo):
    """No line of a form that the desk knows."""

    def __init__(self, thing):
        self.thing = thing


class Early(NotSo):
    """Asked ahead of the end, by so many beats."""

    def __init__(self, beats):
        self.beats = beats


class Busy(NotSo):
    """A telling is under way."""


class Bad(NotSo):
    """A hand that isn't true, or that must stay true now."""

    def __init__(self, hand):
        self.hand = hand


class NoHand(Gone):
    """No hand there."""

    def __init__(self, thing):
        self.thing = thing


class NoBit(Gone):
    """No bit there."""

    def __init__(self, thing):
        self.thing = thing


class NoLetter(Gone):
    """No letter there."""

    def __init__(self, thing):
        self.thing = thing


class NoTree(Gone):
    """No tree there."""

    def __init__(self, thing):
        self.thing = thing


class Ended(Gone):
    """No beat is left."""


class Idle(Gone):
    """No telling is under way."""
