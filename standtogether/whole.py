"""The tree of parties, the parties of a tree, and the rows that two trees share."""

from standtogether.parties import check_guests, check_parties
from standtogether.tight import holds_in, tightened
from standtogether.trees import guests_in, is_leaf, least_form


def loosest_tree(n):
    return 0 if n == 1 else ("any", tuple(range(n)))


def tightened_by(n, tree, parties):
    tight = least_form(n, tree)
    for party in parties:
        tight = tightened(n, tight, party)
        if tight is None:
            return None
    return tight


def tree_of(n, parties):
    check_parties(n, parties)
    return tightened_by(n, loosest_tree(n), parties)


def neighbours(branches):
    return [tuple(sorted(guests_in(branches[k]) + guests_in(branches[k + 1]))) for k in range(len(branches) - 1)]


def binding_parties(tree):
    # A fork gives fewer parties than it has branches, so together they are fewer than the guests.
    if is_leaf(tree):
        return []
    # Of a row each two neighbours are enough: as these overlap, the whole row sits together.
    parties = neighbours(tree[1]) if tree[0] == "row" else [tuple(guests_in(tree))]
    for branch in tree[1]:
        parties.extend(binding_parties(branch))
    return parties


def parties_by(n, tree):
    check_guests(n)
    return binding_parties(tree)


def both(n, one, other):
    return tightened_by(n, one, parties_by(n, other))


def all_parties(n):
    parties = []
    for guest in range(n):
        parties = parties + [party + (guest,) for party in [()] + parties]
    return sorted(parties)


def kept_parties(n, tree):
    check_guests(n)
    return [party for party in all_parties(n) if holds_in(n, tree, party)]
