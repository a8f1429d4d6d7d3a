import copy
import itertools
import time
import unittest

from standtogether.errors import NoWeb
from standtogether.webs import are_stretches, bars_web, crowd_parties, crowds, is_web, web_answer, web_of
from standtogether.whole import tree_of
from support import (
    BIG, ODD_THINGS, Picker, all_parties, assert_answers_stay, assert_refused, is_rising_tuple, nested, part_at, paths,
    put_at, wrong_parts,
)

OF_A_WEB = (web_answer, crowds, crowd_parties)
OF_A_WEB_AND_ANYTHING = (are_stretches, bars_web)
NO_WEBS = [
    (0, ()), (8, ()), (-1, ()), (BIG, ()), (-BIG, ()), (True, ()), (False, ()), (None, ()), ("3", ()), ((3,), ()),
    # Ties that do not rise, are alike, turned, of one point, beyond, of one or three parts.
    (3, ((0, 2), (0, 1))), (3, ((1, 2), (0, 1))), (3, ((0, 1), (0, 1))), (3, ((0, 1), (0, 2), (0, 2))),
    (3, ((1, 0),)), (3, ((1, 1),)), (3, ((0, 3),)), (3, ((-1, 0),)), (3, ((0, BIG),)), (3, ((0, 1), (1, 3))),
    (3, ((0,),)), (3, ((),)), (3, ((0, 1, 2),)), (3, ((0, 1), (1, 2, 2))), (1, ((0, 1),)), (1, ((0, 0),)),
    # Lists and other things in the place of tuples, truths in the place of numbers.
    [3, ((0, 1),)], (3, [(0, 1)]), (3, ([0, 1],)), (3, {(0, 1): True}), {3: ((0, 1),)}, (3, ((False, 1),)),
    (3, ((0, True),)), (3, ((0, 1), (True, 2))), (3, "01"), (3, ("01",)), (3, (("0", "1"),)), (3, None), (3, (None,)),
    (3, 0), (3, (0, 1)), (3, ((0, None),)), (3, (([], {}),)), (3, ((0, (1,)),)),
    # Parts more or less, and deep things.
    (3,), (3, (), ()), (3, ((0, 1),), None), ((0, 1),), ((), 3), (3, nested("tuple", 19)), (3, nested("list", 19)),
    (nested("tuple", 19), ()), ((3, ()),), [(3, ())], (3, (nested("tuple", 18), (0, 1))),
] + ODD_THINGS


def all_pairs(many):
    return list(itertools.combinations(range(many), 2))


def all_webs(many):
    for number in range(2 ** len(all_pairs(many))):
        yield (many, tuple(pair for k, pair in enumerate(all_pairs(many)) if number >> k & 1))


def picked_webs(seed, many):
    """Webs of six and seven points, with few ties and with many."""
    picker = Picker(seed)
    for number in range(many):
        points, share = 6 + number % 2, 1 + number % 8
        yield (points, tuple(pair for pair in all_pairs(points) if picker.number(9) < share))


def named(web, order):
    """The same web, point k called order[k]."""
    return (web[0], tuple(sorted(tuple(sorted((order[one], order[other]))) for one, other in web[1])))


def ring_web(many, further=()):
    ties = [tuple(sorted((k, (k + 1) % many))) for k in range(many)]
    return (many, tuple(sorted(set(ties) | set(further))))


# A middle point with three legs of two points; and a ring of three points with a point more at each.
SPIDER = (7, ((0, 1), (0, 2), (0, 3), (1, 4), (2, 5), (3, 6)))
SPIDER_BAR = ("apart", (4, 5, 6, ((4, 1, 0, 2, 5), (4, 1, 0, 3, 6), (5, 2, 0, 3, 6))))
NET = (6, ((0, 1), (0, 2), (0, 3), (1, 2), (1, 4), (2, 5)))
NET_BAR = ("apart", (3, 4, 5, ((3, 0, 1, 4), (3, 0, 2, 5), (4, 1, 2, 5))))
# Apart by ways of three points: each two of them share a point that the third has not.
SUN = (6, ((0, 1), (0, 2), (0, 3), (0, 4), (1, 2), (1, 3), (1, 5), (2, 4), (2, 5)))
SUN_BAR = ("apart", (3, 4, 5, ((3, 0, 4), (3, 1, 5), (4, 2, 5))))


def is_tied(web, one, other):
    return (one, other) in web[1] or (other, one) in web[1]


def is_web_by_words(thing):
    """Point 81 word by word."""
    if type(thing) is not tuple or len(thing) != 2 or type(thing[0]) is not int or thing[0] not in range(1, 8):
        return False
    many, ties = thing
    if type(ties) is not tuple or any(tie not in all_pairs(many) for tie in ties):
        return False
    return list(ties) == sorted(set(ties)) and all(type(point) is int for tie in ties for point in tie)


def are_stretches_by_words(web, thing):
    """Points that two stretches share are looked for, not their ends held against one another."""
    if type(thing) is not tuple or len(thing) != web[0]:
        return False
    for part in thing:
        if type(part) is not tuple or len(part) != 2 or any(type(end) is not int for end in part) or part[0] > part[1]:
            return False
    shared = {
        (one, other) for one, other in all_pairs(web[0])
        if range(max(thing[one][0], thing[other][0]), min(thing[one][1], thing[other][1]) + 1)
    }
    return shared == set(web[1])


def are_unlike_points(web, thing):
    return type(thing) is tuple and all(type(part) is int and part in range(web[0]) for part in thing) and (
        len(set(thing)) == len(thing))


def is_ring_by_words(web, ring):
    if not are_unlike_points(web, ring) or len(ring) < 4:
        return False
    wanted = {frozenset((ring[k - 1], ring[k])) for k in range(len(ring))}
    there = {frozenset(tie) for tie in web[1] if set(tie) <= set(ring)}
    return wanted == there


def is_way_by_words(web, way, one, other, third):
    if not are_unlike_points(web, way) or way[:1] != (one,) or way[-1:] != (other,) or third in way:
        return False
    if any(is_tied(web, point, third) for point in way):
        return False
    return all(is_tied(web, way[k - 1], way[k]) for k in range(1, len(way)))


def bars_by_words(web, thing):
    """Point 82 word by word."""
    if type(thing) is not tuple or len(thing) != 2 or thing[0] not in ("ring", "apart"):
        return False
    word, what = thing
    if word == "ring":
        return is_ring_by_words(web, what)
    if type(what) is not tuple or len(what) != 4 or type(what[3]) is not tuple or len(what[3]) != 3:
        return False
    if not is_rising_tuple(what[:3], web[0]):
        return False
    a, b, c, ways = what
    return all(is_way_by_words(web, way, *leg) for way, leg in zip(ways, [(a, b, c), (a, c, b), (b, c, a)]))


def all_rings(web):
    """All rings that bar the web, each from its least point on, all orders of all sets gone through."""
    return [
        (some[0],) + rest
        for many in range(4, web[0] + 1) for some in itertools.combinations(range(web[0]), many)
        for rest in itertools.permutations(some[1:]) if is_ring_by_words(web, (some[0],) + rest)
    ]


def crowds_by_words(web):
    """Sets of points all tied, none of which is part of another such set."""
    sets = [
        set(some) for some in all_parties(web[0])
        if all(is_tied(web, one, other) for one, other in itertools.combinations(some, 2))
    ]
    return sorted(tuple(sorted(some)) for some in sets if not any(some < other for other in sets))


class IsWebTest(unittest.TestCase):
    def test_webs(self):
        for many in range(1, 8):
            self.assertIs(is_web((many, ())), True)
            self.assertIs(is_web((many, tuple(all_pairs(many)))), True)
        for web in [SPIDER, NET, SUN, (2, ((0, 1),)), (7, ((0, 6), (5, 6)))]:
            self.assertIs(is_web(web), True, web)

    def test_all_webs_of_up_to_four_points(self):
        for many in range(1, 5):
            for web in all_webs(many):
                self.assertIs(is_web(web), True, web)
                if len(web[1]) > 1:
                    self.assertIs(is_web((many, web[1][::-1])), False, web)
                self.assertIs(is_web(list(web)), False)
                self.assertIs(is_web((many, list(web[1]))), False)

    def test_what_is_no_web(self):
        for thing in NO_WEBS:
            self.assertIs(is_web(thing), False, thing)

    def test_all_short_ties(self):
        for many in (1, 2, 3):
            for tie in itertools.product(range(-1, 5), repeat=2):
                self.assertIs(is_web((many, (tie,))), tie in all_pairs(many), tie)
            for ties in itertools.permutations(all_pairs(3), 2):
                self.assertIs(is_web((3, ties)), ties[0] < ties[1], ties)

    def test_a_part_changed_anywhere(self):
        for web in [(1, ()), (2, ((0, 1),)), (4, ((0, 1), (0, 3), (1, 2))), SPIDER]:
            for path in paths(web):
                for part in wrong_parts(part_at(web, path)):
                    thing = put_at(web, path, part)
                    self.assertIs(is_web(thing), is_web_by_words(thing), thing)


class StretchesTest(unittest.TestCase):
    def test_stretches(self):
        for web, thing in [
            ((1, ()), ((0, 0),)), ((1, ()), ((-5, 7),)), ((1, ()), ((-BIG, BIG),)),
            ((2, ()), ((0, 1), (2, 3))), ((2, ()), ((2, 3), (0, 1))), ((2, ((0, 1),)), ((0, 1), (1, 2))),
            ((2, ((0, 1),)), ((1, 2), (0, 1))), ((2, ((0, 1),)), ((0, 9), (4, 4))), ((2, ((0, 1),)), ((4, 4), (0, 9))),
            ((2, ((0, 1),)), ((4, 4), (4, 4))), ((2, ()), ((-2, -1), (-4, -3))),
            ((2, ((0, 1),)), ((BIG, BIG), (-BIG, BIG))), ((2, ()), ((BIG - 1, BIG - 1), (BIG, BIG))),
            ((3, ((0, 1), (1, 2))), ((0, 1), (1, 2), (2, 3))), ((3, ((0, 1), (1, 2))), ((7, 9), (-1, 7), (-3, -1))),
        ]:
            self.assertIs(are_stretches(web, thing), True, (web, thing))
            self.assertEqual(web_of(list(thing)), web)

    def test_what_are_no_stretches(self):
        web, good = (3, ((0, 1), (1, 2))), ((0, 1), (1, 2), (2, 3))
        for thing in [
            ((1, 0), (1, 2), (2, 3)), ((0, 1), (2, 1), (2, 3)), good[:2], good[1:], good + ((4, 5),), (), (good,),
            list(good), ([0, 1], (1, 2), (2, 3)), ((0, 1), (1, 2), [2, 3]), {0: (0, 1), 1: (1, 2), 2: (2, 3)},
            ((False, 1), (1, 2), (2, 3)), ((0, True), (1, 2), (2, 3)), ((0, 1), (True, 2), (2, 3)),
            ((0, 1), (1, 2), (3, 3)), ((0, 1), (1, 2), (1, 3)), ((0, 1), (2, 2), (2, 3)), ((0, 9), (1, 2), (2, 3)),
            ((0,), (1, 2), (2, 3)), ((0, 1, 1), (1, 2), (2, 3)), ((), (1, 2), (2, 3)), (None, (1, 2), (2, 3)),
            ((0, None), (1, 2), (2, 3)), (("0", "1"), (1, 2), (2, 3)), ("01", (1, 2), (2, 3)), ((0, 1), (1, 2), 2),
            (([], 1), (1, 2), (2, 3)), ((0, {}), (1, 2), (2, 3)), (((0,), (1,)), (1, 2), (2, 3)), None, 3, True, "abc",
            nested("tuple", 20), (nested("tuple", 19),) * 3, (nested("list", 19),) * 3, ("stretches", good),
        ] + ODD_THINGS:
            self.assertIs(are_stretches(web, thing), False, thing)
        self.assertIs(are_stretches(web, good), True)

    def test_all_small_stretches_of_two_points(self):
        pairs = list(itertools.product(range(-1, 3), repeat=2))
        for one, other in itertools.product(pairs, repeat=2):
            for web in ((2, ()), (2, ((0, 1),))):
                wanted = are_stretches_by_words(web, (one, other))
                self.assertIs(are_stretches(web, (one, other)), wanted, (web, one, other))

    def test_a_part_changed_anywhere(self):
        for web, good in [((1, ()), ((2, 2),)), ((3, ((0, 1), (1, 2))), ((0, 1), (1, 2), (2, 3)))]:
            for path in paths(good):
                for part in wrong_parts(part_at(good, path)):
                    thing = put_at(good, path, part)
                    self.assertIs(are_stretches(web, thing), are_stretches_by_words(web, thing), thing)

    def test_the_web_of_stretches(self):
        self.assertEqual(web_of([(3, 3)]), (1, ()))
        self.assertEqual(web_of([(0, 9), (1, 2), (2, 4), (6, 6)]), (4, ((0, 1), (0, 2), (0, 3), (1, 2))))
        self.assertEqual(web_of([(-BIG, -1), (0, BIG), (-1, 0)]), (3, ((0, 2), (1, 2))))
        picker = Picker(811)
        for number in range(700):
            some = [tuple(sorted((picker.number(12) - 4, picker.number(12) - 4))) for _ in range(1 + number % 7)]
            told = web_of(some)
            wanted = tuple(
                (one, other) for one, other in all_pairs(len(some))
                if not (some[one][1] < some[other][0] or some[other][1] < some[one][0]))
            self.assertEqual(told, (len(some), wanted), some)
            self.assertIs(is_web(told), True)
            self.assertIs(are_stretches(told, tuple(some)), True)
            self.assertTrue(are_stretches_by_words(told, tuple(some)))


class BarsWebTest(unittest.TestCase):
    def test_rings_from_whatever_point_on_and_either_way_round(self):
        picker = Picker(821)
        for many in range(4, 8):
            for _ in range(5):
                order = picker.mixed(range(many))
                web = named(ring_web(many), order)
                for start in range(many):
                    ring = tuple(order[start:] + order[:start])
                    for one in (ring, ring[::-1]):
                        self.assertIs(bars_web(web, ("ring", one)), True, (web, one))

    def test_all_tuples_of_points_as_rings(self):
        webs = [ring_web(4), ring_web(4, [(0, 2)]), ring_web(5), ring_web(5, [(0, 2)]), (5, ring_web(4)[1]), (4, ())]
        for web in webs + [(4, tuple(all_pairs(4))), (5, ((0, 1), (0, 4), (1, 2), (1, 4), (2, 3), (3, 4)))]:
            for many in range(6):
                for ring in itertools.product(range(web[0]), repeat=many):
                    wanted = is_ring_by_words(web, ring)
                    self.assertIs(bars_web(web, ("ring", ring)), wanted, (web, ring))

    def test_what_is_no_ring(self):
        web = ring_web(5)
        for ring in [
            (0, 1, 2), (0, 1, 2, 3), (0, 1, 2, 3, 4, 0), (0, 1, 2, 3, 3), (0, 2, 1, 3, 4), (0, 1, 2, 3, 5),
            (-1, 0, 1, 2, 3), (0, 1, 2, 3, -1), [0, 1, 2, 3, 4], (False, 1, 2, 3, 4), (0, True, 2, 3, 4), "01234",
            {0: 1, 1: 2, 2: 3, 3: 4, 4: 0}, (0, 1, 2, 3, None), (0, 1, 2, 3, "4"), (0, 1, 2, 3, (4,)),
            (0, 1, 2, 3, []), (0, 1, 2, 3, {}), ((0, 1, 2, 3, 4),), (0, 1, 2, 3, BIG), (0, 1, 2, 3, 4) * 2,
        ] + ODD_THINGS:
            self.assertIs(bars_web(web, ("ring", ring)), False, ring)
        self.assertIs(bars_web(web, ("ring", (0, 1, 2, 3, 4))), True)
        for further in [(0, 2), (1, 3), (2, 4), (0, 3), (1, 4)]:
            self.assertIs(bars_web(ring_web(5, [further]), ("ring", (0, 1, 2, 3, 4))), False)
        # A ring of three points bars nothing, and a tie of another point does not hurt a ring.
        self.assertIs(bars_web((3, ((0, 1), (0, 2), (1, 2))), ("ring", (0, 1, 2))), False)
        self.assertIs(bars_web((6, tuple(sorted(ring_web(5)[1] + ((0, 5),)))), ("ring", (0, 1, 2, 3, 4))), True)

    def test_three_points_apart(self):
        for web, bar in [(SPIDER, SPIDER_BAR), (NET, NET_BAR), (SUN, SUN_BAR)]:
            self.assertIs(bars_web(web, bar), True, web)
            self.assertTrue(bars_by_words(web, bar))
        # In a ring of six points each second one is apart from the others.
        ways = ((0, 1, 2), (0, 5, 4), (2, 3, 4))
        self.assertIs(bars_web(ring_web(6), ("apart", (0, 2, 4, ways))), True)
        self.assertIs(bars_web(ring_web(6), ("apart", (0, 2, 4, ((0, 5, 4, 3, 2),) + ways[1:]))), False)

    def test_what_is_not_apart(self):
        a, b, c, ways = SPIDER_BAR[1]
        linked = (7, tuple(sorted(SPIDER[1] + ((0, 4),))))
        self.assertIs(bars_web(linked, SPIDER_BAR), False)
        for thing in [
            # With the third point or a point tied to it, a point twice, turned about, of one point.
            (a, b, c, ((4, 1, 0, 3, 6, 5), ways[1], ways[2])), (a, b, c, ((4, 1, 0, 3, 0, 2, 5), ways[1], ways[2])),
            (a, b, c, ((4, 1, 4, 1, 0, 2, 5), ways[1], ways[2])), (a, b, c, (ways[0][::-1], ways[1], ways[2])),
            (a, b, c, (ways[0], ways[1], ways[2][::-1])), (a, b, c, ((4,), ways[1], ways[2])),
            (a, b, c, ((), ways[1], ways[2])), (a, b, c, ((4, 5), ways[1], ways[2])),
            (a, b, c, ((4, 0, 5), ways[1], ways[2])), (a, b, c, ((4, 1, 2, 5), ways[1], ways[2])),
            (a, b, c, ((4, 1, 0, 2), ways[1], ways[2])), (a, b, c, ((1, 0, 2, 5), ways[1], ways[2])),
            (a, b, c, (ways[1], ways[0], ways[2])), (a, b, c, ways[::-1]), (a, b, c, ways[:2]), (a, b, c, ways * 2),
            (a, b, c, ways + ((),)), (a, b, c, list(ways)), (a, b, c, (list(ways[0]), ways[1], ways[2])),
            # Points that do not rise, are alike, or are tied to one another.
            (b, a, c, (ways[0][::-1], ways[2], ways[1])), (a, c, b, (ways[1], ways[0], ways[2][::-1])),
            (a, a, c, ways), (a, b, b, ways), (0, 1, 2, ((0, 1), (0, 2), (1, 0, 2))),
            (1, 2, 3, ((1, 0, 2), (1, 0, 3), (2, 0, 3))), (0, 1, 4, ((0, 1), (0, 1, 4), (1, 4))),
            (True, 5, 6, ways), (a, b, 7, ways), (-1, b, c, ways), (a, b, c), (a, b, c, ways, ()), [a, b, c, ways],
            (a, b, c, None), (a, b, c, "abc"), (None, b, c, ways), (a, "5", c, ways), ((a,), b, c, ways),
            (a, b, c, ((4, True, 0, 2, 5), ways[1], ways[2])), (a, b, c, ((4, 1, False, 2, 5), ways[1], ways[2])),
            (a, b, c, ((4, 1, None, 2, 5), ways[1], ways[2])), (a, b, c, ((4, 1, [], 2, 5), ways[1], ways[2])),
            (a, b, c, nested("tuple", 18)), (a, b, c, (nested("tuple", 17),) * 3), ((a, b, c), ways),
        ] + ODD_THINGS:
            self.assertIs(bars_web(SPIDER, ("apart", thing)), False, thing)
            self.assertFalse(bars_by_words(SPIDER, ("apart", thing)), thing)

    def test_all_ways_of_a_small_web(self):
        ways = SUN_BAR[1][3]
        for many in range(5):
            for way in itertools.product(range(6), repeat=many):
                for place in range(3):
                    thing = put_at(SUN_BAR, (1, 3, place), way)
                    self.assertIs(bars_web(SUN, thing), bars_by_words(SUN, thing), thing)
        for trio in itertools.product(range(6), repeat=3):
            self.assertIs(bars_web(SUN, ("apart", trio + (ways,))), trio == (3, 4, 5), trio)

    def test_a_part_changed_anywhere(self):
        ring = ring_web(5)
        for web, bar in [(ring, ("ring", (1, 2, 3, 4, 0))), (SUN, SUN_BAR), (SPIDER, SPIDER_BAR)]:
            for path in paths(bar):
                for part in wrong_parts(part_at(bar, path)) + ["ring", "apart", "RING", "stretches"]:
                    thing = put_at(bar, path, part)
                    self.assertIs(bars_web(web, thing), bars_by_words(web, thing), thing)

    def test_other_words_and_other_things(self):
        ring, apart = (0, 1, 2, 3, 4), SPIDER_BAR[1]
        for thing in [
            ring, ("ring",), ("ring", ring, ring), ["ring", ring], {"ring": ring}, ("rings", ring), ("Ring", ring),
            ("", ring), (None, ring), (0, ring), (True, ring), (("ring",), ring), ("apart", ring), ("stretches", ring),
            ("ring", ("ring", ring)), "ring", ("ring", "apart"), ([], ring), ({}, ring),
        ] + ODD_THINGS:
            self.assertIs(bars_web(ring_web(5), thing), False, thing)
        for thing in [apart, ("ring", apart), ("apart",), ["apart", apart], ("apart", apart, ()), ("bar", apart)]:
            self.assertIs(bars_web(SPIDER, thing), False, thing)


class WebAnswerTest(unittest.TestCase):
    def assert_answer(self, web, barred):
        """barred: whether something bars the web, by a look of the test's own; None where it has not looked."""
        told = web_answer(web)
        self.assertIs(type(told), tuple)
        self.assertEqual(len(told), 2)
        stretched = told[0] == "stretches"
        if stretched:
            self.assertIs(are_stretches(web, told[1]), True, (web, told))
            self.assertTrue(are_stretches_by_words(web, told[1]), (web, told))
        else:
            self.assertTrue(bars_by_words(web, told), (web, told))
        self.assertIs(bars_web(web, told), not stretched, (web, told))
        if barred is not None:
            self.assertIs(stretched, not barred, (web, told))
        self.assertEqual(web_answer(web), told)
        return told[0]

    def test_by_hand(self):
        for many in range(1, 8):
            self.assertEqual(self.assert_answer((many, ()), False), "stretches")
            self.assertEqual(self.assert_answer((many, tuple(all_pairs(many))), False), "stretches")
        for many in range(4, 8):
            self.assertEqual(self.assert_answer(ring_web(many), True), "ring")
        for web in (SPIDER, NET, SUN):
            self.assertEqual(self.assert_answer(web, True), "apart")

    def test_all_webs_of_up_to_five_points(self):
        # Up to five points nothing is apart that no ring bars: so all rings gone through show what is barred.
        for many in range(1, 6):
            for web in all_webs(many):
                self.assert_answer(web, bool(all_rings(web)))

    def test_webs_of_six_and_seven_points(self):
        kinds = {"stretches": 0, "ring": 0, "apart": 0}
        for web in picked_webs(831, 400):
            kinds[self.assert_answer(web, None)] += 1
        self.assertGreater(min(kinds["stretches"], kinds["ring"]), 50)

    def test_webs_that_are_apart_by_whatever_names(self):
        picker = Picker(832)
        for web in (SPIDER, NET, SUN):
            for _ in range(15):
                self.assertEqual(self.assert_answer(named(web, picker.mixed(range(web[0]))), True), "apart")

    def test_webs_of_stretches_are_never_barred(self):
        picker = Picker(833)
        for number in range(200):
            some = [tuple(sorted((picker.number(10), picker.number(10)))) for _ in range(4 + number % 4)]
            self.assertEqual(self.assert_answer(web_of(some), False), "stretches", some)

    def test_stretches_just_where_some_can_be_put_together(self):
        # As many unlike ends as there are points are enough for whatever stretches.
        for many in range(1, 6):
            spans = [(low, high) for low in range(many) for high in range(low, many)]
            if many < 5:
                found = {web_of(list(some)) for some in itertools.product(spans, repeat=many)}
                for web in all_webs(many):
                    self.assertIs(web_answer(web)[0] == "stretches", web in found, web)
            else:
                # Of five points each such web by some of its names.
                found = {web_of(list(some)) for some in itertools.combinations_with_replacement(spans, many)}
            for web in found:
                self.assertEqual(web_answer(web)[0], "stretches")
                self.assertEqual(all_rings(web), [])

    def test_seven_points_in_good_time(self):
        start = time.monotonic()
        for web in picked_webs(834, 150):
            for ask in OF_A_WEB:
                ask(web)
        self.assertLess(time.monotonic() - start, 60)


class CrowdsTest(unittest.TestCase):
    def assert_crowds(self, web):
        told = crowds(web)
        self.assertIs(type(told), list)
        wanted = crowds_by_words(web)
        self.assertEqual(told, wanted, web)
        parties = crowd_parties(web)
        if all_rings(web):
            self.assertIsNone(parties, web)
            return
        self.assertLessEqual(len(wanted), web[0])
        self.assertIs(type(parties), list)
        self.assertEqual(
            parties, [tuple(k for k, crowd in enumerate(wanted) if point in crowd) for point in range(web[0])], web)
        has_tree = tree_of(len(wanted), parties) is not None
        self.assertIs(has_tree, web_answer(web)[0] == "stretches", web)

    def test_by_hand(self):
        self.assertEqual(crowds((1, ())), [(0,)])
        self.assertEqual(crowds((3, ())), [(0,), (1,), (2,)])
        self.assertEqual(crowds((3, ((0, 1), (1, 2)))), [(0, 1), (1, 2)])
        self.assertEqual(crowds((7, tuple(all_pairs(7)))), [(0, 1, 2, 3, 4, 5, 6)])
        self.assertEqual(crowds(SUN), [(0, 1, 2), (0, 1, 3), (0, 2, 4), (1, 2, 5)])
        self.assertEqual(crowd_parties((1, ())), [(0,)])
        self.assertEqual(crowd_parties((3, ((0, 1), (1, 2)))), [(0,), (0, 1), (1,)])
        self.assertEqual(crowd_parties(SUN), [(0, 1, 2), (0, 1, 3), (0, 2, 3), (1,), (2,), (3,)])
        self.assertIsNone(crowd_parties(ring_web(4)))
        self.assertIsNone(crowd_parties((7, ring_web(6)[1])))

    def test_all_webs_of_up_to_five_points(self):
        for many in range(1, 6):
            for web in all_webs(many):
                self.assert_crowds(web)

    def test_webs_of_six_and_seven_points(self):
        for web in list(picked_webs(841, 100)) + [SPIDER, NET, SUN, ring_web(6), ring_web(7), ring_web(7, [(0, 3)])]:
            self.assert_crowds(web)

    def test_told_lists_are_the_askers_own(self):
        for web in (SPIDER, SUN, (1, ()), (3, ((0, 1), (1, 2)))):
            for ask in (crowds, crowd_parties):
                assert_answers_stay(self, ask, web)


class RefusedTest(unittest.TestCase):
    def test_what_is_no_web_is_refused(self):
        for thing in NO_WEBS:
            before = copy.deepcopy(thing)
            with self.subTest(thing=thing):
                for ask in OF_A_WEB:
                    assert_refused(self, NoWeb, ask, thing)
                for ask in OF_A_WEB_AND_ANYTHING:
                    for other in [((0, 0),), ("ring", (0, 1, 2, 3))] + ODD_THINGS:
                        assert_refused(self, NoWeb, ask, thing, other)
                self.assertEqual(thing, before)


class NothingChangesTest(unittest.TestCase):
    def test_what_is_handed_in_is_the_same_afterwards_and_answers_stay(self):
        for web in [(1, ()), SPIDER, NET, SUN, ring_web(5)] + list(picked_webs(851, 10)):
            for ask in OF_A_WEB:
                assert_answers_stay(self, ask, web)
            for thing in [web_answer(web), web_answer(web)[1], [[0, 1]], ("ring", [0, 1, 2, {}])] + ODD_THINGS:
                for ask in OF_A_WEB_AND_ANYTHING:
                    assert_answers_stay(self, ask, web, thing)
        for thing in NO_WEBS:
            assert_answers_stay(self, is_web, thing)
        assert_answers_stay(self, web_of, [(0, 3), (2, 5), (6, 6)])


if __name__ == "__main__":
    unittest.main()
