"""Guests, parties and seatings, and which parties sit together."""

from standtogether.errors import NoGuests, NoParties

MOST_GUESTS = 7
MOST_PARTIES = 8


def is_whole(thing):
    # To Python a truth is an int as well; here it is no number.
    return isinstance(thing, int) and not isinstance(thing, bool)


def check_guests(n):
    if not is_whole(n) or n < 1 or n > MOST_GUESTS:
        raise NoGuests("the guests are no whole number from 1 to 7")


def check_parties(n, thing):
    # is_parties refuses a wrong n itself, so NoGuests goes ahead of NoParties.
    if not is_parties(n, thing):
        raise NoParties("these are no parties of so many guests")


def is_guest(n, thing):
    return is_whole(thing) and 0 <= thing < n


def are_guests(n, thing):
    return isinstance(thing, tuple) and all([is_guest(n, part) for part in thing])


def rises(numbers):
    return all([numbers[k] < numbers[k + 1] for k in range(len(numbers) - 1)])


def is_party(n, thing):
    check_guests(n)
    return are_guests(n, thing) and len(thing) > 0 and rises(thing)


def is_parties(n, thing):
    check_guests(n)
    if not isinstance(thing, list) or len(thing) > MOST_PARTIES:
        return False
    return all([is_party(n, part) for part in thing])


def is_seating(n, thing):
    check_guests(n)
    return are_guests(n, thing) and sorted(thing) == list(range(n))


def sits(seating, party):
    places = [seating.index(guest) for guest in party]
    return max(places) - min(places) == len(party) - 1


def first_broken(n, parties, seating):
    check_parties(n, parties)
    for number, party in enumerate(parties):
        if not sits(seating, party):
            return number
    return None
