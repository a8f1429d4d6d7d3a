"""The fewest guests to be left out, and bars that show that fewer are not enough."""

from standtogether.bars import answer
from standtogether.choices import are_bars, closest_bars, fewest, fewest_hits
from standtogether.parties import are_guests, check_parties, rises
from standtogether.whole import tree_of


def among(parties, guests):
    # A party of one guest binds nobody, so it can stand where nobody of a party is there:
    # the others keep their numbers. Guests who are in no party stand in nobody's way.
    shares = [tuple([guest for guest in party if guest in guests]) for party in parties]
    return [share if len(share) > 0 else (0,) for share in shares]


def leaves_guests_row(n, parties, guests):
    others = [guest for guest in range(n) if guest not in guests]
    return len(others) > 0 and tree_of(n, among(parties, others)) is not None


def is_guest_choice(n, parties, thing):
    check_parties(n, parties)
    return are_guests(n, thing) and rises(thing) and leaves_guests_row(n, parties, thing)


def least_guest_choices(n, parties):
    check_parties(n, parties)
    return fewest(n, lambda guests: leaves_guests_row(n, parties, guests))


def guests_used(bar):
    guests = list(bar[:3])
    for way in bar[3]:
        guests.extend(way[::2])
    return sorted(set(guests))


def links_show(n, parties, thing):
    check_parties(n, parties)
    if not are_bars(n, parties, thing):
        return None
    return fewest_hits(n, [guests_used(bar) for bar in thing])


def links_for(n, parties):
    check_parties(n, parties)
    return closest_bars(n, lambda guests: answer(n, among(parties, guests)), guests_used)
