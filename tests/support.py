"""What several of the tests need: wrong things, all seatings, all trees, refusals."""

import itertools

from standtogether import errors

REFUSALS = (
    errors.NoGuests, errors.NoParties, errors.NoNumber, errors.NoOrder,
    errors.NoWeb, errors.NoText, errors.NoLine, errors.NoDeed,
)


def nested(kind, depth):
    thing = 0
    for _ in range(depth):
        thing = [thing] if kind == "list" else (thing,) if kind == "tuple" else {0: thing}
    return thing


BIG = 10 ** 29
ODD_THINGS = [
    None, True, False, "", "0", "any", "row", [], {}, (), [0], {0: 0}, {"any": (0, 1)}, (None,), ("0",),
    ([],), ({},), ((),), [[]], BIG, -BIG, (BIG,), (-BIG, BIG), nested("list", 20), nested("tuple", 20),
    nested("dict", 20),
]
NO_GUEST_NUMBERS = [
    0, 8, 9, -1, -7, BIG, -BIG, True, False, None, "", "1", "7", [], [1], (), (1,), {}, {1: 1},
    nested("list", 20), nested("tuple", 20), nested("dict", 20),
]


def assert_refused(case, error, function, *things):
    """The error is told, and it is no other one of the eight."""
    with case.assertRaises(errors.SeatError) as caught:
        function(*things)
    case.assertEqual([kind for kind in REFUSALS if isinstance(caught.exception, kind)], [error])


def all_seatings(n):
    return list(itertools.permutations(range(n)))


def is_row_by_words(tree, row):
    """Point 22 word by word: some order of the branches cuts the row into rows of them."""
    if isinstance(tree, int):
        return row == (tree,)
    word, branches = tree
    orders = itertools.permutations(branches) if word == "any" else (branches, branches[::-1])
    return any(fits_in_turn(order, row) for order in orders)


def fits_in_turn(branches, row):
    if not branches:
        return row == ()
    end = size(branches[0])
    return is_row_by_words(branches[0], row[:end]) and fits_in_turn(branches[1:], row[end:])


def size(tree):
    return 1 if isinstance(tree, int) else sum(size(branch) for branch in tree[1])


def guests(tree):
    return [tree] if isinstance(tree, int) else [guest for branch in tree[1] for guest in guests(branch)]


def splits(some):
    """All ways to put the members of a tuple into blocks, the block of the first one first."""
    if not some:
        yield []
        return
    first, rest = some[0], some[1:]
    for many in range(len(rest) + 1):
        for mates in itertools.combinations(rest, many):
            others = tuple(one for one in rest if one not in mates)
            for blocks in splits(others):
                yield [(first,) + mates] + blocks


def least_trees(some):
    """All trees in least form that have just these guests."""
    if len(some) == 1:
        return [some[0]]
    trees = []
    for blocks in splits(tuple(some)):
        if len(blocks) < 2:
            continue
        for branches in itertools.product(*[least_trees(block) for block in blocks]):
            trees.append(("any", branches))
            if len(branches) < 3:
                continue
            for order in itertools.permutations(branches):
                if min(guests(order[0])) < min(guests(order[-1])):
                    trees.append(("row", order))
    return trees


def arrangements(tree):
    """All trees that come of it by exchanging branches of "any" and turning "row" about."""
    if isinstance(tree, int):
        return [tree]
    word, branches = tree
    orders = itertools.permutations(branches) if word == "any" else (branches, branches[::-1])
    return [
        (word, chosen)
        for order in orders
        for chosen in itertools.product(*[arrangements(branch) for branch in order])
    ]
