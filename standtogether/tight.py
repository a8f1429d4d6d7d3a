"""A tree tightened by a party more, and the rows in which a party sits apart."""

from standtogether.parties import check_guests, sits
from standtogether.trees import guests_in, least_form, put_least, rows_of

NONE_OF_THEM = 0
SOME_OF_THEM = 1
ALL_OF_THEM = 2


def share(tree, party):
    guests = guests_in(tree)
    many = len([guest for guest in guests if guest in party])
    if many == 0:
        return NONE_OF_THEM
    return ALL_OF_THEM if many == len(guests) else SOME_OF_THEM


def with_share(branches, party, wanted):
    return [branch for branch in branches if share(branch, party) == wanted]


def bunched(branches):
    # No tree has one branch alone: a single one stands for itself, none for nothing.
    if len(branches) < 2:
        return list(branches)
    return [("any", tuple(branches))]


def leaning_order(tree, party):
    branches = tree[1]
    if tree[0] == "any":
        torn = with_share(branches, party, SOME_OF_THEM)
        ahead = bunched(with_share(branches, party, NONE_OF_THEM))
        return ahead + torn + bunched(with_share(branches, party, ALL_OF_THEM))
    if share(branches[0], party) > share(branches[-1], party):
        return list(reversed(branches))
    return list(branches)


def leaned(tree, party):
    # Pieces that stand as they are, those of the party last: so the tree touches the
    # rest of the party behind it, if it can. Whether it does is asked of all pieces at once.
    if share(tree, party) != SOME_OF_THEM:
        return [tree]
    return laid(leaning_order(tree, party), party)


def laid(order, party):
    pieces = []
    for branch in order:
        more = leaned(branch, party)
        # Behind others of the party a branch turns its own guests of it to the front.
        if len(with_share(pieces, party, ALL_OF_THEM)) > 0:
            more = list(reversed(more))
        pieces.extend(more)
    return pieces


def touching(order, party):
    pieces = laid(order, party)
    places = [place for place, piece in enumerate(pieces) if share(piece, party) == ALL_OF_THEM]
    return pieces if places[-1] - places[0] == len(places) - 1 else None


def tighten_any(branches, party):
    torn = with_share(branches, party, SOME_OF_THEM)
    core = bunched(with_share(branches, party, ALL_OF_THEM))
    pieces = touching(torn[:1] + core + torn[1:], party)
    if pieces is None:
        return None
    inner = pieces[0] if len(pieces) == 1 else ("row", tuple(pieces))
    return bunched(with_share(branches, party, NONE_OF_THEM) + [inner])[0]


def tighten_row(branches, party):
    pieces = touching(branches, party)
    return None if pieces is None else ("row", tuple(pieces))


def tighten_within(tree, party):
    branches = []
    for branch in tree[1]:
        if share(branch, party) == NONE_OF_THEM:
            branches.append(branch)
        else:
            branches.append(tighten(branch, party))
    return None if None in branches else (tree[0], tuple(branches))


def tighten(tree, party):
    if share(tree, party) == ALL_OF_THEM:
        return tree
    strange = with_share(tree[1], party, NONE_OF_THEM)
    if len(strange) == len(tree[1]) - 1:
        return tighten_within(tree, party)
    if tree[0] == "any":
        return tighten_any(tree[1], party)
    return tighten_row(tree[1], party)


def tightened(n, tree, party):
    check_guests(n)
    tight = tighten(tree, party)
    return None if tight is None else put_least(tight)


def holds_in(n, tree, party):
    # Trees have the same rows just where their least forms are the same.
    return tightened(n, tree, party) == least_form(n, tree)


def first_apart(n, tree, party):
    for row in rows_of(n, tree):
        if not sits(row, party):
            return row
    return None
