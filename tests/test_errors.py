import unittest

from beatferry import errors
from beatferry.errors import Gone, NotSo
from helper import same

NOT_SO = {
    "NoInverse": "number",
    "TooFew": "many",
    "BadNumbers": "thing",
    "BadHouse": "thing",
    "BadRows": "thing",
    "NoNumber": "thing",
    "NoText": "row",
    "NoLine": "thing",
    "Early": "beats",
    "Busy": None,
    "Bad": "hand",
}
GONE = {
    "NoHand": "thing",
    "NoBit": "thing",
    "NoLetter": "thing",
    "NoTree": "thing",
    "Ended": None,
    "Idle": None,
}
FIELDS = {**NOT_SO, **GONE}


def things():
    deep = 7
    for at in range(30):
        deep = (deep,) if at % 3 == 0 else [deep] if at % 3 == 1 else {"in": deep}
    return [
        0, 1, -1, 60, 10 ** 18, -(10 ** 30), 10 ** 5000,
        True, False, None,
        "", "a", "two words\n", "0",
        (), (0,), (1, (True, None)), [], [0], [[1], (2,)],
        {}, {"a": [1, False]}, {1: None}, deep,
    ]


class Families(unittest.TestCase):
    def test_the_two_families(self):
        self.assertEqual(NotSo.__bases__, (ValueError,))
        self.assertEqual(Gone.__bases__, (LookupError,))
        self.assertFalse(issubclass(NotSo, LookupError))
        self.assertFalse(issubclass(Gone, ValueError))

    def test_each_stands_straight_under_its_family(self):
        for name in NOT_SO:
            self.assertEqual(getattr(errors, name).__bases__, (NotSo,), name)
        for name in GONE:
            self.assertEqual(getattr(errors, name).__bases__, (Gone,), name)

    def test_none_stands_under_another(self):
        for name in FIELDS:
            for other in FIELDS:
                under = issubclass(getattr(errors, name), getattr(errors, other))
                self.assertEqual(under, name == other, (name, other))

    def test_caught_by_family_and_by_name_alone(self):
        for name, field in FIELDS.items():
            kind = getattr(errors, name)
            error = kind() if field is None else kind(3)
            family, stranger = (NotSo, Gone) if name in NOT_SO else (Gone, NotSo)
            self.assertIsInstance(error, family)
            self.assertNotIsInstance(error, stranger)
            with self.assertRaises(kind) as caught:
                raise error
            self.assertIs(caught.exception, error)


class Values(unittest.TestCase):
    def test_kept_as_handed_in(self):
        for name, field in FIELDS.items():
            if field is None:
                continue
            kind = getattr(errors, name)
            for thing, copy in zip(things(), things()):
                same(self, getattr(kind(thing), field), thing, name)
                same(self, thing, copy, name)

    def test_handed_in_by_name(self):
        for name, field in FIELDS.items():
            if field is not None:
                error = getattr(errors, name)(**{field: (1, "x")})
                same(self, getattr(error, field), (1, "x"), name)

    def test_kept_when_raised(self):
        for name, field in FIELDS.items():
            if field is None:
                continue
            kind = getattr(errors, name)
            with self.assertRaises(kind) as caught:
                raise kind([name])
            same(self, getattr(caught.exception, field), [name], name)

    def test_each_keeps_its_own(self):
        for name, field in FIELDS.items():
            if field is not None:
                kind = getattr(errors, name)
                first, second = kind(1), kind(2)
                same(self, (getattr(first, field), getattr(second, field)), (1, 2), name)

    def test_those_without_a_value(self):
        for name, field in FIELDS.items():
            if field is None:
                self.assertIsInstance(getattr(errors, name)(), getattr(errors, name))


if __name__ == "__main__":
    unittest.main()
