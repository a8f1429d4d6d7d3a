"""What several of the tests need: wrong things, all seatings, parties and trees, refusals."""

import copy
import functools
import itertools
import time

from standtogether import errors
from standtogether.bars import is_bar

REFUSALS = (
    errors.NoGuests, errors.NoParties, errors.NoNumber, errors.NoOrder,
    errors.NoWeb, errors.NoText, errors.NoLine, errors.NoDeed,
)


def nested(kind, depth):
    thing = 0
    for _ in range(depth):
        thing = [thing] if kind == "list" else (thing,) if kind == "tuple" else {0: thing}
    return thing


BIG = 10 ** 29
ODD_THINGS = [
    None, True, False, "", "0", "any", "row", [], {}, (), [0], {0: 0}, {"any": (0, 1)}, (None,), ("0",),
    ([],), ({},), ((),), [[]], BIG, -BIG, (BIG,), (-BIG, BIG), nested("list", 20), nested("tuple", 20),
    nested("dict", 20),
]
NO_GUEST_NUMBERS = [
    0, 8, 9, -1, -7, BIG, -BIG, True, False, None, "", "1", "7", [], [1], (), (1,), {}, {1: 1},
    nested("list", 20), nested("tuple", 20), nested("dict", 20),
]
NO_PARTIES_OF_FOUR = [
    None, True, "", "none", 0, {}, (), ((0, 1),), [()], [(0, 1), ()], [(1, 0)], [(0, 0)], [(0, 4)], [(-1, 0)],
    [[0, 1]], [(0, True)], [(False, 1)], [None], [0], [(0,)] * 9, [(0, 1), None], [(0, 1), [2, 3]], {(0,): 0},
    [(0, (1,))], [("0",)], [{}], [[]],
]
LARGE_TREES = [
    (6, ("row", (2, ("any", (5, 0)), ("row", (4, 1, 3))))),
    (6, ("any", (("row", (3, 1, 0)), ("any", (5, 4, 2))))),
    (7, ("any", (("any", (0, 6)), ("row", (1, 5, ("any", (4, 2)))), 3))),
    (7, ("row", (6, 5, 4, 3, 2, 1, 0))),
    (7, ("any", (6, ("any", (5, ("any", (4, ("any", (3, ("any", (2, ("any", (1, 0))))))))))))),
    (7, ("any", (3, 1, 4, 0, 5, 2, 6))),
]
TRIANGLE = [(0, 1), (0, 2), (1, 2)]
TRIANGLE_BAR = (0, 1, 2, ((0, 0, 1), (0, 1, 2), (1, 2, 2)))
STAR = [(0, 1), (0, 2), (0, 3)]
STAR_BAR = (1, 2, 3, ((1, 0, 0, 1, 2), (1, 0, 0, 2, 3), (2, 1, 0, 2, 3)))
# Each three of its guests are a triangle, and there are parties beside these.
SQUARE = [(0, 1), (0, 2), (0, 3), (1, 2), (1, 3), (2, 3), (0, 1, 2, 3), (3,)]
RING = [(k, k + 1) for k in range(6)] + [(0, 6)]
# None of these is a list of bars of the triangle's parties.
NO_LISTS_OF_BARS = [
    (), (TRIANGLE_BAR,), ((TRIANGLE_BAR,),), {}, {0: TRIANGLE_BAR}, TRIANGLE_BAR, None, 0, 1, True, False, "", "[]",
    [None], [()], [[]], [{}], [0], [TRIANGLE_BAR, None], [None, TRIANGLE_BAR], [TRIANGLE_BAR, TRIANGLE_BAR, 0],
    [[TRIANGLE_BAR]], [(TRIANGLE_BAR,)], [list(TRIANGLE_BAR)], [TRIANGLE_BAR[:3]], [TRIANGLE_BAR + (0,)],
    [(0, 2, 1, TRIANGLE_BAR[3])], [STAR_BAR], [TRIANGLE_BAR, STAR_BAR], [("bar", TRIANGLE_BAR)], [TRIANGLE_BAR, []],
    [(0, 1, 2, ((0, 0, 1), (0, 1, 2), (1, 3, 2)))], [(0, 1, 2, ((0, 0, 1), (0, 1, 2), (1, -1, 2)))],
    [(False, 1, 2, TRIANGLE_BAR[3])], ["abcd"], [nested("tuple", 19)], [nested("list", 19)],
    [TRIANGLE_BAR, nested("dict", 19)], [BIG], [-BIG, TRIANGLE_BAR], [TRIANGLE_BAR] * 101, [TRIANGLE_BAR] * 250,
    [None] * 101,
] + [odd for odd in ODD_THINGS if odd != []]


def assert_refused(case, error, function, *things):
    """The error is told, and it is no other one of the eight."""
    with case.assertRaises(errors.SeatError) as caught:
        function(*things)
    case.assertEqual([kind for kind in REFUSALS if isinstance(caught.exception, kind)], [error])


def assert_guests_and_parties_refused(case, asks, asks_of_more):
    """NoGuests ahead of NoParties, each where it is due, whatever the other things are.

    asks are handed n and parties, asks_of_more something further behind these.
    """
    whatever = [[(0,)], TRIANGLE, [TRIANGLE_BAR], TRIANGLE_BAR, (0,), (0, 1, 2, 3)] + ODD_THINGS
    for n in NO_GUEST_NUMBERS:
        for thing in whatever + NO_PARTIES_OF_FOUR:
            for ask in asks:
                assert_refused(case, errors.NoGuests, ask, n, thing)
            for ask in asks_of_more:
                assert_refused(case, errors.NoGuests, ask, n, thing, (0,))
                assert_refused(case, errors.NoGuests, ask, n, [], thing)
    for n, wrong in [(4, NO_PARTIES_OF_FOUR), (7, [odd for odd in ODD_THINGS if odd != []])]:
        for thing in wrong:
            before = copy.deepcopy(thing)
            for ask in asks:
                assert_refused(case, errors.NoParties, ask, n, thing)
            for ask in asks_of_more:
                for other in whatever:
                    assert_refused(case, errors.NoParties, ask, n, thing, other)
            case.assertEqual(thing, before)


def assert_answers_stay(case, ask, *things):
    """What is handed in is the same afterwards, asked again the answer is, and a told list is the asker's own."""
    before = copy.deepcopy(things)
    told = ask(*things)
    wanted = copy.deepcopy(told)
    case.assertEqual(ask(*things), wanted)
    case.assertEqual((told, things), (wanted, before))
    if isinstance(told, list):
        told.append(None)
        told[0] = None
        case.assertEqual(things, before)
        case.assertEqual(ask(*things), wanted)


def all_seatings(n):
    return list(itertools.permutations(range(n)))


def all_parties(n):
    """All parties of n, rising as tuples do."""
    return sorted(party for many in range(1, n + 1) for party in itertools.combinations(range(n), many))


def together(seating, party):
    """Point 12 word by word: some places one behind the other hold just the party's guests."""
    many = len(party)
    return any(tuple(sorted(seating[low:low + many])) == party for low in range(len(seating)))


@functools.cache
def seatings_with(n, party):
    return frozenset(seating for seating in all_seatings(n) if together(seating, party))


def seatings_of(n, parties):
    """All seatings in which each party sits together, rising as tuples do."""
    kept = set(all_seatings(n))
    for party in parties:
        kept &= seatings_with(n, party)
    return tuple(sorted(kept))


def is_row_by_words(tree, row):
    """Point 22 word by word: some order of the branches cuts the row into rows of them."""
    if isinstance(tree, int):
        return row == (tree,)
    word, branches = tree
    orders = itertools.permutations(branches) if word == "any" else (branches, branches[::-1])
    return any(fits_in_turn(order, row) for order in orders)


def fits_in_turn(branches, row):
    if not branches:
        return row == ()
    end = size(branches[0])
    return is_row_by_words(branches[0], row[:end]) and fits_in_turn(branches[1:], row[end:])


def size(tree):
    return 1 if isinstance(tree, int) else sum(size(branch) for branch in tree[1])


def guests(tree):
    return [tree] if isinstance(tree, int) else [guest for branch in tree[1] for guest in guests(branch)]


def splits(some):
    """All ways to put the members of a tuple into blocks, the block of the first one first."""
    if not some:
        yield []
        return
    first, rest = some[0], some[1:]
    for many in range(len(rest) + 1):
        for mates in itertools.combinations(rest, many):
            others = tuple(one for one in rest if one not in mates)
            for blocks in splits(others):
                yield [(first,) + mates] + blocks


def least_trees(some):
    """All trees in least form that have just these guests."""
    if len(some) == 1:
        return [some[0]]
    trees = []
    for blocks in splits(tuple(some)):
        if len(blocks) < 2:
            continue
        for branches in itertools.product(*[least_trees(block) for block in blocks]):
            trees.append(("any", branches))
            if len(branches) < 3:
                continue
            for order in itertools.permutations(branches):
                if min(guests(order[0])) < min(guests(order[-1])):
                    trees.append(("row", order))
    return trees


def arrangements(tree):
    """All trees that come of it by exchanging branches of "any" and turning "row" about."""
    if isinstance(tree, int):
        return [tree]
    word, branches = tree
    orders = itertools.permutations(branches) if word == "any" else (branches, branches[::-1])
    return [
        (word, chosen)
        for order in orders
        for chosen in itertools.product(*[arrangements(branch) for branch in order])
    ]


def read_rows(tree):
    """All rows of a tree, rising as tuples do: what is read off it, its branches exchanged and turned."""
    return tuple(sorted({tuple(guests(one)) for one in arrangements(tree)}))


def in_least_form(tree):
    """Point 23 word by word."""
    if isinstance(tree, int):
        return True
    word, branches = tree
    least = [min(guests(branch)) for branch in branches]
    right = least == sorted(least) if word == "any" else least[0] < least[-1]
    return right and all(in_least_form(branch) for branch in branches)


@functools.cache
def trees_by_rows(n):
    """All trees of n in least form, each under its rows."""
    return {read_rows(tree): tree for tree in least_trees(range(n))}


class Picker:
    """Picks that look mixed and are the same in each run."""

    def __init__(self, seed):
        self.state = seed

    def number(self, below):
        self.state = (self.state * 6364136223846793005 + 1442695040888963407) % 2 ** 64
        return (self.state >> 33) % below

    def one(self, some):
        return some[self.number(len(some))]

    def mixed(self, some):
        left = list(some)
        return [left.pop(self.number(len(left))) for _ in some]

    def tree(self, some):
        """Some tree of these guests, seldom in least form."""
        some = self.mixed(some)
        if len(some) == 1:
            return some[0]
        many = 2 + self.number(len(some) - 1)
        cuts = [0] + sorted(self.mixed(range(1, len(some)))[:many - 1]) + [len(some)]
        branches = tuple(self.tree(some[low:high]) for low, high in zip(cuts, cuts[1:]))
        word = "row" if many > 2 and self.number(2) else "any"
        return (word, branches)

    def parties(self, n, many):
        """So many parties of n, small ones more often than large ones."""
        return [
            tuple(sorted(self.mixed(range(n))[:1 + min(self.number(n), self.number(n))])) for _ in range(many)
        ]


def large_trees(seed):
    """Trees of six and seven guests: those by hand, and picked ones."""
    picker = Picker(seed)
    return LARGE_TREES + [(n, picker.tree(range(n))) for n in (6, 7) for _ in range(25)]


def is_whole(thing):
    return type(thing) is int


def is_way_by_words(n, parties, way, one, other, third):
    """Point 51 word by word: guests and parties by turns, walked from the front."""
    if type(way) is not tuple or len(way) < 3 or len(way) % 2 == 0:
        return False
    for place, part in enumerate(way):
        if not is_whole(part) or part not in range(len(parties) if place % 2 else n):
            return False
    for place in range(1, len(way), 2):
        party = parties[way[place]]
        if way[place - 1] not in party or way[place + 1] not in party or third in party:
            return False
    return way[0] == one and way[-1] == other


def is_bar_by_words(n, parties, thing):
    if type(thing) is not tuple or len(thing) != 4:
        return False
    a, b, c, ways = thing
    if not all(is_whole(part) and part in range(n) for part in (a, b, c)) or not a < b < c:
        return False
    return type(ways) is tuple and len(ways) == 3 and all(
        is_way_by_words(n, parties, way, *leg) for way, leg in zip(ways, [(a, b, c), (a, c, b), (b, c, a)]))


def shortest_ways(parties, one, other, third, longest):
    """All ways of as few parties as can be, each step tried; none where the longest does not get there."""
    ways = [(one,)]
    for _ in range(longest):
        ways = [
            way + (number, mate) for way in ways for number, party in enumerate(parties)
            if way[-1] in party and third not in party for mate in party
        ]
        found = [way for way in ways if way[-1] == other]
        if found:
            return found
        # A way that comes back to a guest is never one of the shortest.
        ways = [way for way in ways if len(set(way[::2])) == len(way[::2])]
    return []


def many_parties():
    """Parties of one to five guests: all short lists of few guests, picked ones of more."""
    for n in range(1, 4):
        for many in range(5):
            for parties in itertools.product(all_parties(n), repeat=many):
                yield n, list(parties)
    large = [party for party in all_parties(4) if len(party) > 1]
    for many in range(7):
        for parties in itertools.combinations(large, many):
            yield 4, list(parties)
    for parties in itertools.combinations([party for party in all_parties(5) if len(party) > 1], 3):
        yield 5, list(parties)
    picker = Picker(52)
    for number in range(1500):
        n = 4 + number % 2
        yield n, picker.parties(n, 3 + number % 6)


def some_parties():
    """Some of these many: all of one guest and of two, and few of the others."""
    short = itertools.takewhile(lambda one: one[0] < 3, many_parties())
    return list(short) + [(1, [(0,)] * 8)] + list(itertools.islice(many_parties(), 0, None, 11))


def large_parties(seed, many):
    picker = Picker(seed)
    return [(6 + number % 2, picker.parties(6 + number % 2, 8)) for number in range(many)]


def put_at(thing, path, part):
    if not path:
        return part
    return thing[:path[0]] + (put_at(thing[path[0]], path[1:], part),) + thing[path[0] + 1:]


def paths(thing):
    """The place of the thing itself and of each part of it, however deep."""
    yield ()
    if isinstance(thing, tuple):
        for place, part in enumerate(thing):
            for path in paths(part):
                yield (place,) + path


def part_at(thing, path):
    return part_at(thing[path[0]], path[1:]) if path else thing


def wrong_parts(part):
    """What may stand in the place of a part: things near it, and things of another kind."""
    wrong = ODD_THINGS + [str(part), [part], (part,), {0: part}, nested("tuple", 18), nested("list", 18)]
    if isinstance(part, tuple):
        return wrong + [list(part), dict(enumerate(part)), part[:-1], part[1:], part + part[-1:], part[:1] + part,
                        part[::-1], part + part, part + (None,), part + ((),)]
    return wrong + list(range(-2, 9)) + ([BIG + part] if isinstance(part, int) else [])


def all_shortest_bars(n, parties):
    """All bars whose ways have, each for itself, as few parties as can be."""
    return [
        (a, b, c, ways)
        for a, b, c in itertools.combinations(range(n), 3)
        for ways in itertools.product(
            *[shortest_ways(parties, *leg, n) for leg in [(a, b, c), (a, c, b), (b, c, a)]])
    ]


def fewest_that_hit(many, uses):
    """Of how many numbers below many the smallest set is that has one of each of the uses."""
    return next(
        few for few in range(many + 1) for some in itertools.combinations(range(many), few)
        if all(set(some) & set(used) for used in uses))


def is_rising_tuple(thing, below):
    if type(thing) is not tuple or not all(type(part) is int and part in range(below) for part in thing):
        return False
    return list(thing) == sorted(set(thing))


class LeavingOutTests:
    """What holds of the choices of parties and of guests alike (71 and 72, 73 and 74).

    A TestCase that takes it tells: is_one, least, show and tell, the functions in question; least_by_words, the
    least choices by a look of its own; below, how many numbers there are to choose from; used, those a bar uses.
    """

    def test_least_choices_of_one_to_five_guests(self):
        sizes = set()
        for n, parties in some_parties():
            wanted = self.least_by_words(n, parties)
            self.assertEqual(self.least(n, parties), wanted, (n, parties))
            self.assertIs(wanted == [()], seatings_of(n, parties) != ())
            sizes.add(len(wanted[0]))
        self.assertGreaterEqual(sizes, {0, 1, 2})

    def test_least_choices_of_six_and_seven_guests(self):
        for n, parties in large_parties(712, 20):
            for many in (3, 5, 8):
                wanted = self.least_by_words(n, parties[:many])
                self.assertEqual(self.least(n, parties[:many]), wanted, parties[:many])

    def test_least_choices_are_choices_and_nothing_less_is(self):
        for n, parties in large_parties(713, 15):
            for choice in self.least(n, parties):
                self.assertIs(self.is_one(n, parties, choice), True)
                for part in range(len(choice)):
                    self.assertIs(self.is_one(n, parties, choice[:part] + choice[part + 1:]), False)

    def assert_shown(self, n, parties, bars):
        told = self.show(n, parties, bars)
        self.assertIs(type(told), int, bars)
        uses = [self.used(bar) for bar in bars]
        self.assertEqual(told, fewest_that_hit(self.below(n, parties), uses), (parties, bars))
        return told

    def test_no_bars_show_nothing(self):
        for n, parties in [(1, []), (3, TRIANGLE), (4, STAR), (7, []), (7, [(0, 1)] * 8)]:
            self.assertEqual(self.assert_shown(n, parties, []), 0)

    def test_lists_of_one_to_four_bars(self):
        shown = set()
        picker = Picker(721)
        for number in range(150):
            n = 3 + number % 5
            # Few guests a party make bars that have few guests in common.
            parties = [tuple(sorted(picker.mixed(range(n))[:2 + picker.number(2)])) for _ in range(8 - number % 3)]
            bars = all_shortest_bars(n, parties)
            for many in range(1, 5 if bars else 1):
                for _ in range(5):
                    shown.add(self.assert_shown(n, parties, [picker.one(bars) for _ in range(many)]))
        self.assertGreaterEqual(shown, {1, 2})

    def test_no_choice_has_fewer_than_bars_show(self):
        picker = Picker(722)
        for number in range(40):
            n = 4 + number % 4
            parties = picker.parties(n, 8)
            bars = all_shortest_bars(n, parties)
            if bars:
                chosen = [picker.one(bars) for _ in range(8)]
                self.assertLessEqual(self.assert_shown(n, parties, chosen), len(self.least_by_words(n, parties)[0]))

    def test_a_hundred_bars_and_one_more(self):
        for n, parties in [(4, SQUARE), (7, RING)]:
            bars = all_shortest_bars(n, parties)
            hundred = (bars * 100)[:100]
            for some in (hundred, bars[:1] * 100, hundred[:99]):
                self.assert_shown(n, parties, some)
            self.assertIsNone(self.show(n, parties, hundred + bars[:1]))

    def test_what_is_no_list_of_bars(self):
        for thing in NO_LISTS_OF_BARS:
            self.assertIsNone(self.show(3, TRIANGLE, thing), thing)
        self.assertEqual(self.show(3, TRIANGLE, [TRIANGLE_BAR]), 1)
        self.assertIsNone(self.show(3, TRIANGLE[:2], [TRIANGLE_BAR]))
        self.assertIsNone(self.show(3, [], [TRIANGLE_BAR]))

    def test_a_part_of_a_bar_changed_anywhere(self):
        for path in paths(STAR_BAR):
            for part in wrong_parts(part_at(STAR_BAR, path)):
                thing = put_at(STAR_BAR, path, part)
                told = self.show(4, STAR, [STAR_BAR, thing])
                self.assertIs(told is not None, is_bar_by_words(4, STAR, thing), thing)

    def assert_bars(self, n, parties, fewest):
        told = self.tell(n, parties)
        self.assertIs(type(told), list)
        self.assertLessEqual(len(told), 100)
        for bar in told:
            self.assertIs(is_bar(n, parties, bar), True, (n, parties, bar))
            self.assertTrue(is_bar_by_words(n, parties, bar), (n, parties, bar))
        self.assertEqual(self.assert_shown(n, parties, told), fewest, (n, parties, told))

    def test_told_bars_of_one_to_five_guests(self):
        for n, parties in some_parties():
            self.assert_bars(n, parties, len(self.least_by_words(n, parties)[0]))

    def test_told_bars_of_six_and_seven_guests(self):
        picker = Picker(724)
        pairs = [(7, [tuple(sorted(picker.mixed(range(7))[:2 + k % 2])) for _ in range(8)]) for k in range(10)]
        for n, parties in large_parties(723, 16) + pairs:
            for many in (4, 6, 8):
                self.assert_bars(n, parties[:many], len(self.least_by_words(n, parties[:many])[0]))

    def test_seven_guests_and_eight_parties_in_good_time(self):
        start = time.monotonic()
        hard = [[tuple(range(7))] * 8, [(0, 1)] * 8, RING + [(0, 3)], [(0, k) for k in range(1, 7)] + [(1, 2), (3, 4)]]
        for n, parties in [(7, parties) for parties in hard] + large_parties(725, 20):
            self.least(n, parties)
            self.show(n, parties, self.tell(n, parties))
        self.assertLess(time.monotonic() - start, 60)

    def test_no_guests_and_then_no_parties(self):
        assert_guests_and_parties_refused(self, (self.least, self.tell), (self.is_one, self.show))

    def test_what_is_handed_in_is_the_same_afterwards_and_answers_stay(self):
        for n, parties in [(1, []), (3, TRIANGLE), (4, STAR), (4, SQUARE), (7, RING)] + large_parties(726, 4):
            for ask in (self.least, self.tell):
                assert_answers_stay(self, ask, n, parties)
            for thing in [(0,), [0], [TRIANGLE_BAR], [[TRIANGLE_BAR], {}], self.tell(n, parties)] + ODD_THINGS:
                for ask in (self.is_one, self.show):
                    assert_answers_stay(self, ask, n, parties, thing)

    def test_nothing_hangs_on_what_is_done_to_the_parties_later(self):
        parties = list(TRIANGLE)
        told = (self.least(3, parties), self.tell(3, parties))
        parties.pop()
        self.assertEqual(told, ([(0,), (1,), (2,)], [TRIANGLE_BAR]))
        self.assertEqual((self.least(3, parties), self.tell(3, parties)), ([()], []))
