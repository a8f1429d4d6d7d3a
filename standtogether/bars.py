"""Bars: three guests and ways of parties that show that no seating keeps the parties."""

from standtogether.parties import check_parties, is_guest, is_whole, rises
from standtogether.whole import tree_of


def is_party_number(parties, thing):
    return is_whole(thing) and 0 <= thing < len(parties)


def links(party, one, other, third):
    return one in party and other in party and third not in party


def is_way(n, parties, thing, one, other, third):
    if not isinstance(thing, tuple) or len(thing) < 3 or len(thing) % 2 == 0:
        return False
    guests = thing[::2]
    numbers = thing[1::2]
    if not all([is_guest(n, part) for part in guests]):
        return False
    if not all([is_party_number(parties, part) for part in numbers]):
        return False
    if guests[0] != one or guests[-1] != other:
        return False
    return all([links(parties[number], guests[k], guests[k + 1], third) for k, number in enumerate(numbers)])


def legs(a, b, c):
    return [(a, b, c), (a, c, b), (b, c, a)]


def are_ways(n, parties, thing, wanted):
    if not isinstance(thing, tuple) or len(thing) != len(wanted):
        return False
    return all([is_way(n, parties, way, leg[0], leg[1], leg[2]) for way, leg in zip(thing, wanted)])


def is_bar(n, parties, thing):
    check_parties(n, parties)
    if not isinstance(thing, tuple) or len(thing) != 4:
        return False
    trio = thing[:3]
    if not all([is_guest(n, part) for part in trio]) or not rises(trio):
        return False
    return are_ways(n, parties, thing[3], legs(trio[0], trio[1], trio[2]))


def least_way(parties, one, other, third):
    # Guests are reached in the order of their ways, fewest parties first and of as many the
    # least tuple: so the first way that comes to a guest is its least one.
    found = {one: (one,)}
    waiting = [one]
    while len(waiting) > 0:
        guest = waiting.pop(0)
        for number, party in enumerate(parties):
            for mate in party:
                if mate not in found and links(party, guest, mate, third):
                    found[mate] = found[guest] + (number, mate)
                    waiting.append(mate)
    return found.get(other)


def bar_past(parties, a, b, c):
    ways = [least_way(parties, leg[0], leg[1], leg[2]) for leg in legs(a, b, c)]
    return None if None in ways else (a, b, c, tuple(ways))


def length_of(bar):
    # Each way has one guest more than parties, so the longer tuple has the more parties.
    return sum([len(way) for way in bar[3]])


def least_bar(n, parties):
    check_parties(n, parties)
    bars = []
    for c in range(n):
        for b in range(c):
            bars.extend([bar_past(parties, a, b, c) for a in range(b)])
    bars = [bar for bar in bars if bar is not None]
    return min(bars, key=lambda bar: (length_of(bar), bar), default=None)


def answer(n, parties):
    tree = tree_of(n, parties)
    if tree is None:
        return ("bar", least_bar(n, parties))
    return ("tree", tree)
