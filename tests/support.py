"""What several of the tests need: wrong things, all seatings, parties and trees, refusals."""

import functools
import itertools

from standtogether import errors

REFUSALS = (
    errors.NoGuests, errors.NoParties, errors.NoNumber, errors.NoOrder,
    errors.NoWeb, errors.NoText, errors.NoLine, errors.NoDeed,
)


def nested(kind, depth):
    thing = 0
    for _ in range(depth):
        thing = [thing] if kind == "list" else (thing,) if kind == "tuple" else {0: thing}
    return thing


BIG = 10 ** 29
ODD_THINGS = [
    None, True, False, "", "0", "any", "row", [], {}, (), [0], {0: 0}, {"any": (0, 1)}, (None,), ("0",),
    ([],), ({},), ((),), [[]], BIG, -BIG, (BIG,), (-BIG, BIG), nested("list", 20), nested("tuple", 20),
    nested("dict", 20),
]
NO_GUEST_NUMBERS = [
    0, 8, 9, -1, -7, BIG, -BIG, True, False, None, "", "1", "7", [], [1], (), (1,), {}, {1: 1},
    nested("list", 20), nested("tuple", 20), nested("dict", 20),
]
NO_PARTIES_OF_FOUR = [
    None, True, "", "none", 0, {}, (), ((0, 1),), [()], [(0, 1), ()], [(1, 0)], [(0, 0)], [(0, 4)], [(-1, 0)],
    [[0, 1]], [(0, True)], [(False, 1)], [None], [0], [(0,)] * 9, [(0, 1), None], [(0, 1), [2, 3]], {(0,): 0},
    [(0, (1,))], [("0",)], [{}], [[]],
]
LARGE_TREES = [
    (6, ("row", (2, ("any", (5, 0)), ("row", (4, 1, 3))))),
    (6, ("any", (("row", (3, 1, 0)), ("any", (5, 4, 2))))),
    (7, ("any", (("any", (0, 6)), ("row", (1, 5, ("any", (4, 2)))), 3))),
    (7, ("row", (6, 5, 4, 3, 2, 1, 0))),
    (7, ("any", (6, ("any", (5, ("any", (4, ("any", (3, ("any", (2, ("any", (1, 0))))))))))))),
    (7, ("any", (3, 1, 4, 0, 5, 2, 6))),
]


def assert_refused(case, error, function, *things):
    """The error is told, and it is no other one of the eight."""
    with case.assertRaises(errors.SeatError) as caught:
        function(*things)
    case.assertEqual([kind for kind in REFUSALS if isinstance(caught.exception, kind)], [error])


def all_seatings(n):
    return list(itertools.permutations(range(n)))


def all_parties(n):
    """All parties of n, rising as tuples do."""
    return sorted(party for many in range(1, n + 1) for party in itertools.combinations(range(n), many))


def together(seating, party):
    """Point 12 word by word: some places one behind the other hold just the party's guests."""
    many = len(party)
    return any(tuple(sorted(seating[low:low + many])) == party for low in range(len(seating)))


@functools.cache
def seatings_with(n, party):
    return frozenset(seating for seating in all_seatings(n) if together(seating, party))


def seatings_of(n, parties):
    """All seatings in which each party sits together, rising as tuples do."""
    kept = set(all_seatings(n))
    for party in parties:
        kept &= seatings_with(n, party)
    return tuple(sorted(kept))


def is_row_by_words(tree, row):
    """Point 22 word by word: some order of the branches cuts the row into rows of them."""
    if isinstance(tree, int):
        return row == (tree,)
    word, branches = tree
    orders = itertools.permutations(branches) if word == "any" else (branches, branches[::-1])
    return any(fits_in_turn(order, row) for order in orders)


def fits_in_turn(branches, row):
    if not branches:
        return row == ()
    end = size(branches[0])
    return is_row_by_words(branches[0], row[:end]) and fits_in_turn(branches[1:], row[end:])


def size(tree):
    return 1 if isinstance(tree, int) else sum(size(branch) for branch in tree[1])


def guests(tree):
    return [tree] if isinstance(tree, int) else [guest for branch in tree[1] for guest in guests(branch)]


def splits(some):
    """All ways to put the members of a tuple into blocks, the block of the first one first."""
    if not some:
        yield []
        return
    first, rest = some[0], some[1:]
    for many in range(len(rest) + 1):
        for mates in itertools.combinations(rest, many):
            others = tuple(one for one in rest if one not in mates)
            for blocks in splits(others):
                yield [(first,) + mates] + blocks


def least_trees(some):
    """All trees in least form that have just these guests."""
    if len(some) == 1:
        return [some[0]]
    trees = []
    for blocks in splits(tuple(some)):
        if len(blocks) < 2:
            continue
        for branches in itertools.product(*[least_trees(block) for block in blocks]):
            trees.append(("any", branches))
            if len(branches) < 3:
                continue
            for order in itertools.permutations(branches):
                if min(guests(order[0])) < min(guests(order[-1])):
                    trees.append(("row", order))
    return trees


def arrangements(tree):
    """All trees that come of it by exchanging branches of "any" and turning "row" about."""
    if isinstance(tree, int):
        return [tree]
    word, branches = tree
    orders = itertools.permutations(branches) if word == "any" else (branches, branches[::-1])
    return [
        (word, chosen)
        for order in orders
        for chosen in itertools.product(*[arrangements(branch) for branch in order])
    ]


def read_rows(tree):
    """All rows of a tree, rising as tuples do: what is read off it, its branches exchanged and turned."""
    return tuple(sorted({tuple(guests(one)) for one in arrangements(tree)}))


def in_least_form(tree):
    """Point 23 word by word."""
    if isinstance(tree, int):
        return True
    word, branches = tree
    least = [min(guests(branch)) for branch in branches]
    right = least == sorted(least) if word == "any" else least[0] < least[-1]
    return right and all(in_least_form(branch) for branch in branches)


@functools.cache
def trees_by_rows(n):
    """All trees of n in least form, each under its rows."""
    return {read_rows(tree): tree for tree in least_trees(range(n))}


class Picker:
    """Picks that look mixed and are the same in each run."""

    def __init__(self, seed):
        self.state = seed

    def number(self, below):
        self.state = (self.state * 6364136223846793005 + 1442695040888963407) % 2 ** 64
        return (self.state >> 33) % below

    def one(self, some):
        return some[self.number(len(some))]

    def mixed(self, some):
        left = list(some)
        return [left.pop(self.number(len(left))) for _ in some]

    def tree(self, some):
        """Some tree of these guests, seldom in least form."""
        some = self.mixed(some)
        if len(some) == 1:
            return some[0]
        many = 2 + self.number(len(some) - 1)
        cuts = [0] + sorted(self.mixed(range(1, len(some)))[:many - 1]) + [len(some)]
        branches = tuple(self.tree(some[low:high]) for low, high in zip(cuts, cuts[1:]))
        word = "row" if many > 2 and self.number(2) else "any"
        return (word, branches)

    def parties(self, n, many):
        """So many parties of n, small ones more often than large ones."""
        return [
            tuple(sorted(self.mixed(range(n))[:1 + min(self.number(n), self.number(n))])) for _ in range(many)
        ]


def large_trees(seed):
    """Trees of six and seven guests: those by hand, and picked ones."""
    picker = Picker(seed)
    return LARGE_TREES + [(n, picker.tree(range(n))) for n in (6, 7) for _ in range(25)]
