"""The fewest parties to be left out, and bars that show that fewer are not enough."""

from standtogether.bars import answer, is_bar, is_party_number
from standtogether.parties import check_parties, rises
from standtogether.whole import all_parties, tree_of

MOST_BARS = 100


def pickings(many):
    # Fewest first; those of as many rise, as sorted leaves them in their order.
    return sorted([()] + all_parties(many), key=len)


def fewest(many, fits):
    found = []
    for some in pickings(many):
        if len(found) > 0 and len(some) > len(found[0]):
            break
        if fits(some):
            found.append(some)
    return found


def only(parties, numbers):
    # A party of one guest binds nobody and stands in no least way: so it can stand
    # in the place of a party that is out, and the others keep their numbers.
    return [party if number in numbers else (0,) for number, party in enumerate(parties)]


def leaves_row(n, parties, numbers):
    others = [number for number in range(len(parties)) if number not in numbers]
    return tree_of(n, only(parties, others)) is not None


def is_choice(n, parties, thing):
    check_parties(n, parties)
    if not isinstance(thing, tuple) or not all([is_party_number(parties, part) for part in thing]):
        return False
    return rises(thing) and leaves_row(n, parties, thing)


def least_choices(n, parties):
    check_parties(n, parties)
    return fewest(len(parties), lambda numbers: leaves_row(n, parties, numbers))


def are_bars(n, parties, thing):
    if not isinstance(thing, list) or len(thing) > MOST_BARS:
        return False
    return all([is_bar(n, parties, part) for part in thing])


def numbers_used(bar):
    numbers = []
    for way in bar[3]:
        numbers.extend(way[1::2])
    return sorted(set(numbers))


def hits(some, used):
    return any([one in used for one in some])


def fewest_hits(many, uses):
    told = fewest(many, lambda some: all([hits(some, used) for used in uses]))
    return len(told[0])


def bars_show(n, parties, thing):
    check_parties(n, parties)
    if not are_bars(n, parties, thing):
        return None
    return fewest_hits(len(parties), [numbers_used(bar) for bar in thing])


def holds_all(some, used):
    return all([one in some for one in used])


def closest_bars(many, answer_within, used_by):
    # A bar for each picking that has one, though no part of it has: whoever hits these bars
    # leaves no picking with a bar. None of these pickings holds another, so of eight there
    # are at most seventy, as many as have four.
    bars = []
    for some in pickings(many):
        if not any([holds_all(some, used_by(bar)) for bar in bars]):
            told = answer_within(some)
            if told[0] == "bar":
                bars.append(told[1])
    return bars


def bars_for(n, parties):
    check_parties(n, parties)
    return closest_bars(len(parties), lambda numbers: answer(n, only(parties, numbers)), numbers_used)
