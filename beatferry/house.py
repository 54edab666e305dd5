"""A house of hands that goes beat by beat."""

from beatferry.beats import letter_at
from beatferry.blame import surely_bad
from beatferry.errors import Bad, BadHouse, BadRows, Busy, Idle, NoBit, NoHand, NoNumber
from beatferry.fields import is_prime
from beatferry.kinds import is_field_number, is_from_to, is_hand, is_row
from beatferry.lies import decoded, spoken, wrong
from beatferry.silence import letters
from beatferry.trees import across, delay

MOST_BITS = 6
MOST_ROWS = 20


def is_prime_above(q, thing):
    """Whether it is a prime above q and below 10 ** 9."""
    return is_from_to(thing, q + 1, 10 ** 9 - 1) and is_prime(thing)


def are_rows(p, k, thing):
    """Whether it is a tuple of 1 to 20 rows of k numbers of the field."""
    if not isinstance(thing, tuple) or not 1 <= len(thing) <= MOST_ROWS:
        return False
    return all([is_row(p, k, row) for row in thing])


class House:
    """The hands, which of them are silent or lie, and the telling under way or the last one."""

    def __init__(self, q, p, k):
        if not is_from_to(q, 1, MOST_BITS):
            raise BadHouse(q)
        if not is_prime_above(q, p):
            raise BadHouse(p)
        if not is_from_to(k, 1, q):
            raise BadHouse(k)
        self.q = q
        self.p = p
        self.k = k
        self.silent = {}
        # By (hand, bit) how much more it tells there, never 0.
        self.lies = {}
        # The source of the telling, None where there was none; its rows, its beats, who was bad, what each heard.
        self.origin = None
        self.told_rows = ()
        self.done = 0
        self.spoilers = {}
        self.ears = [[] for hand in range(1 << q)]

    def __eq__(self, other):
        return (isinstance(other, House) and self.q == other.q and self.p == other.p and self.k == other.k
                and self.silent == other.silent and self.lies == other.lies
                and self.origin == other.origin and self.told_rows == other.told_rows and self.done == other.done
                and self.spoilers == other.spoilers and self.ears == other.ears)

    def copy(self):
        """A house alike, of its own."""
        twin = House(self.q, self.p, self.k)
        twin.silent = {hand: True for hand in self.silent}
        twin.lies = {place: self.lies[place] for place in self.lies}
        if self.origin is not None:
            twin.take_up(self.origin, self.told_rows, self.done, self.bad(), self.ears)
        return twin

    def take_up(self, source, rows, beats, bad, heard):
        """A telling that is so many beats far, with those who were bad in it and what each hand heard."""
        self.origin = source
        self.told_rows = rows
        self.done = beats
        self.spoilers = {hand: True for hand in bad}
        self.ears = [list(numbers) for numbers in heard]
        self.ears[source] = list(letters(self.p, self.q, rows))

    def hands(self):
        """How many hands there are."""
        return 1 << self.q

    def check_hand(self, thing):
        """Refuses what is no hand of the house."""
        if not is_hand(self.q, thing):
            raise NoHand(thing)

    def is_true(self, hand):
        """Whether the hand is neither silent nor lies by any bit."""
        return hand not in self.silent and not any([(hand, bit) in self.lies for bit in range(self.q)])

    def is_under_way(self):
        """Whether there is a telling that isn't at its end."""
        return self.origin is not None and self.done < self.q * len(self.told_rows) + self.q

    def tell(self, source, rows):
        """Begins a telling of these rows."""
        self.check_hand(source)
        if not are_rows(self.p, self.k, rows):
            raise BadRows(rows)
        if self.is_under_way():
            raise Busy()
        if not self.is_true(source):
            raise Bad(source)
        nothing = (None,) * (self.q * len(rows))
        self.take_up(source, rows, 0, (), [nothing for hand in range(self.hands())])

    def check_free(self, hand):
        """Refuses the source of a telling that is under way."""
        if hand == self.origin and self.is_under_way():
            raise Bad(hand)

    def silence(self, hand):
        """From now on the hand tells nothing."""
        self.check_hand(hand)
        self.check_free(hand)
        self.silent[hand] = True

    def lie(self, hand, bit, more):
        """From now on what the hand tells by this bit is so much more; 0 ends this lie."""
        self.check_hand(hand)
        if not is_from_to(bit, 0, self.q - 1):
            raise NoBit(bit)
        if not is_field_number(self.p, more):
            raise NoNumber(more)
        if more == 0:
            self.lies.pop((hand, bit), None)
        else:
            self.check_free(hand)
            self.lies[(hand, bit)] = more

    def mend(self, hand):
        """The hand is true again."""
        self.check_hand(hand)
        self.silent.pop(hand, None)
        for bit in range(self.q):
            self.lies.pop((hand, bit), None)

    def step(self):
        """One beat of the telling."""
        if not self.is_under_way():
            raise Idle()
        # All is told as it was ahead of the beat, so nothing is heard until all is gathered.
        tellings = self.tellings()
        for hearer, letter, number in tellings:
            self.ears[hearer][letter] = number
        for hand in range(self.hands()):
            if not self.is_true(hand):
                self.spoilers[hand] = True
        self.done += 1

    def tellings(self):
        """The list of (hearer, letter, number) of this beat's letters, None for a number where nothing is told."""
        bit = self.done % self.q
        many = self.q * len(self.told_rows)
        some = []
        for hearer in range(self.hands()):
            letter = letter_at(self.q, hearer, self.done, self.origin)
            # The source is told its own letters once more, which is no news to it.
            if hearer != self.origin and 0 <= letter < many:
                some.append((hearer, letter, self.told_by(across(hearer, bit), bit, letter)))
        return some

    def told_by(self, hand, bit, letter):
        """What the hand tells of the letter by this bit, None for nothing."""
        if hand in self.silent:
            return None
        return spoken(self.p, self.ears[hand][letter], self.lies.get((hand, bit), 0))

    def beat(self):
        """How many beats of the telling are done."""
        return self.done

    def source(self):
        """The telling's source, None where there was none."""
        return self.origin

    def heard(self, hand):
        """The tuple of what the hand heard of each letter, None where nothing."""
        self.check_hand(hand)
        return tuple(self.ears[hand])

    def rows(self, hand):
        """The tuple of the rows that are told to the hand, None for each that isn't."""
        self.check_hand(hand)
        if hand == self.origin:
            return self.told_rows
        rounds = self.rounds_heard(hand)
        return tuple([None if numbers is None else decoded(self.p, self.k, numbers) for numbers in rounds])

    def rounds_heard(self, hand):
        """For each row what the hand heard of its letters, None as long as one of them is still to come."""
        q = self.q
        rounds = []
        for first in range(0, q * len(self.told_rows), q):
            last = max([first + j + delay(q, hand, j, source=self.origin) for j in range(q)])
            rounds.append(tuple(self.ears[hand][first:first + q]) if last < self.done else None)
        return rounds

    def bad(self):
        """The lot of the hands that weren't true at a beat of the telling."""
        return tuple(sorted(self.spoilers))

    def books(self):
        """The book of each hand but the source."""
        if self.origin is None:
            return ()
        return tuple([(hand, self.accused(hand)) for hand in range(self.hands()) if hand != self.origin])

    def accused(self, hand):
        """The rising tuple of the trees that are wrong in any round of which the hand's row is told."""
        rounds = [numbers for numbers in self.rounds_heard(hand) if numbers is not None]
        wrongs = [wrong(self.p, self.k, numbers) for numbers in rounds]
        return tuple(sorted({j for trees in wrongs if trees is not None for j in trees}))

    def blamed(self, most):
        """The lot of those who are bad in each lot of at most so many that explains the books, None without one."""
        if self.origin is None:
            return ()
        return surely_bad(self.q, self.books(), most, source=self.origin)
