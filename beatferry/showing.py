"""Plans and houses as texts."""


def spelt(some):
    """The words of these by blanks, a dash for None, and for none at all."""
    if len(some) == 0:
        return "-"
    return " ".join(["-" if one is None else str(one) for one in some])


def show_plan(hands, m, plan, *, source=0):
    """The text of a plan."""
    beats = [spelt([f"{teller}>{hearer}:{letter}" for teller, hearer, letter in beat]) for beat in plan]
    return "\n".join([f"plan {hands} {m} {source}"] + [f"beat {words}" for words in beats])


def show_house(house):
    """The text of a house."""
    rows = [f"house {house.q} {house.p} {house.k}"] + untrue_rows(house)
    if house.source() is not None:
        rows += telling_rows(house)
    return "\n".join(rows)


def untrue_rows(house):
    """The rows of the hands that are silent or lie."""
    rows = []
    for hand in range(house.hands()):
        if hand in house.silent:
            rows.append(f"silent {hand}")
        for bit in range(house.q):
            more = house.lies.get((hand, bit), 0)
            if more > 0:
                rows.append(f"lie {hand} {bit} {more}")
    return rows


def telling_rows(house):
    """The rows of the telling under way, or of the last one."""
    source = house.source()
    rows = [f"telling {source} {house.beat()}"]
    rows += [f"row {spelt(row)}" for row in house.rows(source)]
    rows.append(f"bad {spelt(house.bad())}")
    rows += [f"heard {hand} {spelt(house.heard(hand))}" for hand in range(house.hands()) if hand != source]
    return rows
