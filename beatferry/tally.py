"""The sums of all hands' numbers, brought to the source beat by beat."""

from beatferry.back import back_told
from beatferry.errors import BadNumbers, Early, Ended
from beatferry.having import end
from beatferry.kinds import is_row

MOST_LETTERS = 40


def are_numbers(q, p, thing):
    """Whether it is a tuple with for each hand a tuple of equally many numbers of the field, 1 to 40."""
    if not isinstance(thing, tuple) or len(thing) != 1 << q or not isinstance(thing[0], tuple):
        return False
    m = len(thing[0])
    return 1 <= m <= MOST_LETTERS and all([is_row(p, m, own) for own in thing])


class Tally:
    """All hands' parts of the sums, and the beats that lack."""

    def __init__(self, q, p, numbers, *, source=0):
        if not are_numbers(q, p, numbers):
            raise BadNumbers(numbers)
        self.q = q
        self.p = p
        # The name of the source itself is that of a method elsewhere.
        self.origin = source
        self.numbers = numbers
        self.parts = [list(own) for own in numbers]
        self.lacking = list(range(end(q, len(numbers[0]))))

    def __eq__(self, other):
        return (isinstance(other, Tally) and self.q == other.q and self.p == other.p and self.origin == other.origin
                and self.numbers == other.numbers and self.lacking == other.lacking)

    def __len__(self):
        return len(self.lacking)

    def step(self):
        """One beat: each that has something to give back tells its part, the other adds it."""
        if len(self.lacking) == 0:
            raise Ended()
        u = self.lacking.pop(0)
        # All is told as it was ahead of the beat, so nothing is added until all is gathered.
        given = self.tellings(u)
        for hearer, i, number in given:
            self.parts[hearer][i] = (self.parts[hearer][i] + number) % self.p

    def tellings(self, u):
        """The list of (hearer, letter, number) of what is told at beat u."""
        m = len(self.numbers[0])
        some = []
        for hand in range(len(self.numbers)):
            telling = back_told(self.q, m, hand, u, source=self.origin)
            if telling is not None:
                hearer, i = telling
                some.append((hearer, i, self.parts[hand][i]))
        return some

    def beat(self):
        """How many beats are done."""
        return end(self.q, len(self.numbers[0])) - len(self.lacking)

    def part(self, hand, i):
        """What the hand has of letter i now."""
        return self.parts[hand][i]

    def sums(self):
        """The tuple of the source's parts, once all beats are done."""
        if len(self.lacking) > 0:
            raise Early(len(self.lacking))
        return tuple(self.parts[self.origin])
