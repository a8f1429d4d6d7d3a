"""Round tables: guests who sit in a ring, and the turned parties that tell them."""

from standtogether.bars import least_bar
from standtogether.parties import check_guests, check_parties, is_seating
from standtogether.trees import rows_of
from standtogether.whole import tree_of


def is_round(n, thing):
    return is_seating(n, thing) and thing[0] == 0


def sits_round(n, seating, party):
    check_guests(n)
    # Round a table a party that is in one piece ends once, and the party of all guests never.
    ends = [k for k in range(n) if seating[k - 1] in party and seating[k] not in party]
    return len(ends) <= 1


def first_broken_round(n, seating, parties):
    check_parties(n, parties)
    for number, party in enumerate(parties):
        if not sits_round(n, seating, party):
            return number
    return None


def turned(n, party):
    if 0 not in party:
        return party
    return tuple([guest for guest in range(n) if guest not in party])


def turned_parties(n, parties):
    check_parties(n, parties)
    return [turned(n, party) for party in parties if len(turned(n, party)) > 0]


def all_rounds(n, parties):
    tree = tree_of(n, turned_parties(n, parties))
    if tree is None:
        return []
    # Guest 0 is in no turned party: wherever such a row has it, it may as well stand first.
    return [row for row in rows_of(n, tree) if row[0] == 0]


def rounds_many(n, parties):
    return len(all_rounds(n, parties))


def round_answer(n, parties):
    rounds = all_rounds(n, parties)
    if len(rounds) == 0:
        return ("bar", least_bar(n, turned_parties(n, parties)))
    return ("round", rounds[0])
