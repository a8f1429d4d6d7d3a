"""Guests named anew, a bench put in for a guest, and guests left out."""

from standtogether.errors import NoGuests, NoNumber, NoOrder, NoParties
from standtogether.parties import (
    MOST_GUESTS, MOST_PARTIES, are_guests, check_guests, check_parties, is_guest, is_seating, rises,
)
from standtogether.trees import is_leaf, put_least


def check_order(n, thing):
    # is_seating refuses a wrong n itself, so NoGuests goes ahead of NoOrder.
    if not is_seating(n, thing):
        raise NoOrder("this is no order of so many guests")


def named(guests, order):
    return tuple([order[guest] for guest in guests])


def parties_named(n, parties, order):
    check_parties(n, parties)
    check_order(n, order)
    return [tuple(sorted(named(party, order))) for party in parties]


def seating_named(n, seating, order):
    check_order(n, order)
    return named(seating, order)


def with_steads(tree, steads):
    if is_leaf(tree):
        return steads[tree]
    return (tree[0], tuple([with_steads(branch, steads) for branch in tree[1]]))


def tree_named(n, tree, order):
    check_order(n, order)
    return put_least(with_steads(tree, order))


def check_bench(n, guest, m):
    if not is_guest(n, guest):
        raise NoNumber("this is no guest in whose stead a bench could be put in")
    if n - 1 + m > MOST_GUESTS:
        raise NoGuests("there would be more than seven guests")


def moved(guest, place, m):
    # Guests behind the place go on by as many as the bench has more than the one guest there.
    return guest if guest < place else guest + m - 1


def party_put_in(party, place, bench):
    guests = [moved(guest, place, len(bench)) for guest in party if guest != place]
    if place in party:
        guests.extend(bench)
    return tuple(sorted(guests))


def put_in(n, parties, guest, m, others):
    # m is as n: what is no number of guests goes ahead of all else, then what is no parties.
    check_guests(n)
    check_guests(m)
    check_parties(n, parties)
    check_parties(m, others)
    check_bench(n, guest, m)
    if len(parties) + 1 + len(others) > MOST_PARTIES:
        raise NoParties("there would be more than eight parties")
    bench = tuple(range(guest, guest + m))
    outer = [party_put_in(party, guest, bench) for party in parties]
    return outer + [bench] + [named(party, bench) for party in others]


def tree_put_in(n, tree, guest, m, other):
    check_guests(n)
    check_guests(m)
    check_bench(n, guest, m)
    steads = [moved(k, guest, m) for k in range(n)]
    steads[guest] = with_steads(other, list(range(guest, guest + m)))
    return put_least(with_steads(tree, steads))


def without(tree, guests):
    # A list with what is left of the tree: nothing, or one tree.
    if is_leaf(tree):
        return [] if tree in guests else [tree]
    branches = []
    for branch in tree[1]:
        branches.extend(without(branch, guests))
    if len(branches) < 2:
        return branches
    # Two branches as they stand or the other way round are two in whatever order.
    return [("any" if len(branches) == 2 else tree[0], tuple(branches))]


def left_out(n, tree, guests):
    check_guests(n)
    if not are_guests(n, guests) or not rises(guests) or len(guests) == n:
        raise NoNumber("these are no guests that could be left out")
    others = [guest for guest in range(n) if guest not in guests]
    steads = {}
    for number, guest in enumerate(others):
        steads[guest] = number
    return put_least(with_steads(without(tree, guests)[0], steads))
