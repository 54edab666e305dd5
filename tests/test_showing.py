import unittest

from beatferry.house import House
from beatferry.plans import plan
from beatferry.showing import show_house, show_plan
from helper import check_asking, same


def lines(*rows):
    return "\n".join(rows)


class Plans(unittest.TestCase):
    def test_by_hand(self):
        same(self, show_plan(2, 1, ()), "plan 2 1 0")
        same(self, show_plan(64, 60, (), source=63), "plan 64 60 63")
        same(self, show_plan(2, 1, ((),)), "plan 2 1 0\nbeat -")
        same(self, show_plan(2, 1, (((0, 1, 0),),)), "plan 2 1 0\nbeat 0>1:0")
        same(self, show_plan(3, 12, ((), ((0, 1, 11), (2, 2, 3)), ()), source=1),
             "plan 3 12 1\nbeat -\nbeat 0>1:11 2>2:3\nbeat -")

    def test_the_ferry_s(self):
        same(self, show_plan(4, 3, plan(2, 3)), lines(
            "plan 4 3 0", "beat 0>1:0", "beat 0>2:1 1>3:0", "beat 0>1:2 1>0:0 2>3:1 3>2:0",
            "beat 0>2:2 1>3:2 2>0:1 3>1:1"))
        same(self, show_plan(2, 1, plan(1, 1, source=1), source=1), "plan 2 1 1\nbeat 1>0:0")

    def test_by_places_and_by_names(self):
        check_asking(self, show_plan, {"hands": 4, "m": 3, "plan": plan(2, 3)}, source=2)

    def test_somewhat_beyond_the_limits_raises_nothing(self):
        show_plan(70, 100, (((0, 69, 99),),) * 210, source=66)


class Houses(unittest.TestCase):
    def test_a_new_one(self):
        same(self, show_house(House(1, 2, 1)), "house 1 2 1")
        same(self, show_house(House(6, 999999937, 6)), "house 6 999999937 6")

    def test_who_is_silent_or_lies(self):
        house = House(3, 7, 2)
        house.lie(5, 2, 1)
        house.lie(5, 0, 6)
        house.silence(7)
        house.silence(2)
        house.lie(2, 1, 3)
        house.lie(0, 1, 2)
        same(self, show_house(house), lines(
            "house 3 7 2", "lie 0 1 2", "silent 2", "lie 2 1 3", "lie 5 0 6", "lie 5 2 1", "silent 7"))
        house.mend(2)
        house.lie(5, 0, 0)
        same(self, show_house(house), lines("house 3 7 2", "lie 0 1 2", "lie 5 2 1", "silent 7"))

    def test_a_telling(self):
        house = House(2, 5, 1)
        house.silence(1)
        house.tell(0, ((3,), (4,)))
        same(self, show_house(house), lines(
            "house 2 5 1", "silent 1", "telling 0 0", "row 3", "row 4", "bad -",
            "heard 1 - - - -", "heard 2 - - - -", "heard 3 - - - -"))
        house.step()
        house.lie(3, 0, 2)
        house.step()
        same(self, show_house(house), lines(
            "house 2 5 1", "silent 1", "lie 3 0 2", "telling 0 2", "row 3", "row 4", "bad 1 3",
            "heard 1 3 - - -", "heard 2 - 3 - -", "heard 3 - - - -"))
        house.mend(1)
        house.mend(3)
        for _ in range(4):
            house.step()
        same(self, show_house(house), lines(
            "house 2 5 1", "telling 0 6", "row 3", "row 4", "bad 1 3",
            "heard 1 3 3 4 4", "heard 2 - 3 4 4", "heard 3 - 3 4 4"))

    def test_of_another_source(self):
        house = House(1, 7, 1)
        house.tell(1, ((6,),))
        house.step()
        same(self, show_house(house), lines("house 1 7 1", "telling 1 1", "row 6", "bad -", "heard 0 6"))
        house = House(2, 7, 2)
        house.tell(2, ((1, 2), (0, 6)))
        same(self, show_house(house), lines(
            "house 2 7 2", "telling 2 0", "row 1 2", "row 0 6", "bad -",
            "heard 0 - - - -", "heard 1 - - - -", "heard 3 - - - -"))

    def test_changes_nothing(self):
        house = House(2, 5, 1)
        house.silence(1)
        house.tell(0, ((3,),))
        house.step()
        twin = house.copy()
        same(self, show_house(house), show_house(house=house))
        self.assertTrue(house == twin)


if __name__ == "__main__":
    unittest.main()
