import itertools
import unittest

from standtogether.choices import bars_for, bars_show, is_choice, least_choices
from support import (
    BIG, ODD_THINGS, RING, SQUARE, STAR, STAR_BAR, TRIANGLE, TRIANGLE_BAR, LeavingOutTests, all_seatings,
    is_rising_tuple, large_parties, nested, seatings_with, some_parties,
)


def broken_in_seatings(n, parties):
    """For each seating the numbers of the parties that sit apart in it."""
    return {
        frozenset(k for k, party in enumerate(parties) if seating not in seatings_with(n, party))
        for seating in all_seatings(n)
    }


def is_choice_by_words(broken, many, thing):
    """Point 71: some seating breaks none but these."""
    return is_rising_tuple(thing, many) and any(apart <= set(thing) for apart in broken)


def all_numbers(many):
    return [some for few in range(many + 1) for some in itertools.combinations(range(many), few)]


def least_by_words(n, parties):
    broken = broken_in_seatings(n, parties)
    choices = [some for some in all_numbers(len(parties)) if is_choice_by_words(broken, len(parties), some)]
    few = min(len(some) for some in choices)
    return sorted(some for some in choices if len(some) == few)


def numbers_in(bar):
    return {part for way in bar[3] for part in way[1::2]}


class IsChoiceTest(unittest.TestCase):
    def test_by_hand(self):
        for n, parties, thing, wanted in [
            (1, [], (), True),
            (1, [(0,)], (0,), True),
            (3, [], (0,), False),
            (3, TRIANGLE, (), False),
            (3, TRIANGLE, (0,), True),
            (3, TRIANGLE, (2,), True),
            (3, TRIANGLE, (0, 2), True),
            (3, TRIANGLE, (0, 1, 2), True),
            (3, TRIANGLE, (0, 1, 2, 3), False),
            (3, TRIANGLE, (3,), False),
            (3, TRIANGLE, (-1,), False),
            (3, TRIANGLE, (-3,), False),
            (3, TRIANGLE, (1, 0), False),
            (3, TRIANGLE, (0, 0), False),
            (3, TRIANGLE, (0, 2, 1), False),
            (3, TRIANGLE * 2, (0,), False),
            (3, TRIANGLE * 2, (0, 4), False),
            (3, TRIANGLE * 2, (0, 3), True),
            (4, SQUARE, (0, 5), False),
            (4, SQUARE, (0, 1, 5), True),
            (4, SQUARE, (0, 1, 2), False),
            (4, SQUARE, (6, 7), False),
            (4, SQUARE, (0, 1, 2, 3, 4, 5, 6, 7), True),
        ]:
            self.assertIs(is_choice(n, parties, thing), wanted, (n, parties, thing))

    def test_of_anything(self):
        for thing in [
            [], [0], [0, 1], {0: True}, {}, None, "", "0", 0, 1, True, (True,), (False,), (0, True), (False, 1), ("0",),
            (None,), ((0,),), ([0],), ({},), (0, None), (0, "1"), (0, (1,)), (0, []), (0, {}), (BIG,), (0, BIG),
            (-BIG, 0), (nested("tuple", 19),), (0, nested("list", 19)),
        ] + [odd for odd in ODD_THINGS if odd != ()]:
            self.assertIs(is_choice(3, TRIANGLE, thing), False, thing)
            self.assertIs(is_choice(3, TRIANGLE[:2], thing), False, thing)
            self.assertIs(is_choice(3, [], thing), False, thing)
        for parties in ([], TRIANGLE[:2]):
            self.assertIs(is_choice(3, parties, ()), True)

    def test_all_short_tuples(self):
        for n, parties in [(3, TRIANGLE), (3, TRIANGLE[:2]), (4, STAR), (3, [(0, 2), (0, 1), (0, 2), (1, 2)])]:
            broken = broken_in_seatings(n, parties)
            for many in range(5):
                for thing in itertools.product(range(-1, len(parties) + 1), repeat=many):
                    wanted = is_choice_by_words(broken, len(parties), thing)
                    self.assertIs(is_choice(n, parties, thing), wanted, (parties, thing))

    def assert_choices(self, n, parties):
        broken = broken_in_seatings(n, parties)
        for thing in all_numbers(len(parties)):
            wanted = is_choice_by_words(broken, len(parties), thing)
            self.assertIs(is_choice(n, parties, thing), wanted, (n, parties, thing))
            self.assertIs(is_choice(n, parties, list(thing)), False)

    def test_parties_of_one_to_five_guests(self):
        for n, parties in some_parties()[::3]:
            self.assert_choices(n, parties)

    def test_parties_of_six_and_seven_guests(self):
        for n, parties in large_parties(711, 6):
            self.assert_choices(n, parties)


class LeastChoicesTest(unittest.TestCase):
    def test_by_hand(self):
        for n, parties, wanted in [
            (1, [], [()]),
            (1, [(0,)] * 8, [()]),
            (3, TRIANGLE[1:], [()]),
            (3, TRIANGLE, [(0,), (1,), (2,)]),
            (4, STAR, [(0,), (1,), (2,)]),
            (3, [(0, 1), (0, 2), (1, 2), (0, 2), (0, 1)], [(2,)]),
            (3, TRIANGLE * 2, [(0, 3), (1, 4), (2, 5)]),
        ]:
            told = least_choices(n, parties)
            self.assertIs(type(told), list)
            self.assertEqual(told, wanted, (n, parties))
        self.assertEqual(len(least_choices(4, SQUARE)[0]), 3)
        # A ring of all seven opens wherever one of its parties is left out.
        self.assertEqual(least_choices(7, RING), [(k,) for k in range(7)])


class BarsShowTest(unittest.TestCase):
    def test_by_hand(self):
        self.assertEqual(bars_show(3, TRIANGLE, [TRIANGLE_BAR]), 1)
        self.assertEqual(bars_show(3, TRIANGLE, [TRIANGLE_BAR] * 2), 1)
        self.assertEqual(bars_show(4, STAR, [STAR_BAR]), 1)
        two = TRIANGLE * 2
        behind = (0, 1, 2, ((0, 3, 1), (0, 4, 2), (1, 5, 2)))
        mixed = (0, 1, 2, ((0, 0, 1), (0, 4, 2), (1, 5, 2)))
        self.assertEqual(bars_show(3, two, [TRIANGLE_BAR, behind]), 2)
        self.assertEqual(bars_show(3, two, [TRIANGLE_BAR, mixed]), 1)
        self.assertEqual(bars_show(3, two, [TRIANGLE_BAR, mixed, behind]), 2)
        # A bar that uses more numbers than it needs to is hit by one more of them.
        wide = (0, 1, 2, ((0, 0, 1, 3, 0, 0, 1), (0, 1, 2), (1, 2, 2)))
        self.assertEqual(bars_show(3, two, [wide, behind]), 1)
        # Numbers count, not guests: guest 0 stands in both bars.
        apart = [(0, 1), (0, 2), (1, 2), (0, 3), (0, 4), (3, 4)]
        self.assertEqual(
            bars_show(5, apart, [TRIANGLE_BAR, (0, 3, 4, ((0, 3, 3), (0, 4, 4), (3, 5, 4)))]), 2)


class LeavingOutTest(LeavingOutTests, unittest.TestCase):
    is_one, least, show, tell = map(staticmethod, (is_choice, least_choices, bars_show, bars_for))
    least_by_words = staticmethod(least_by_words)
    used = staticmethod(numbers_in)

    @staticmethod
    def below(n, parties):
        return len(parties)

    def test_told_bars_by_hand(self):
        self.assertEqual(bars_for(1, []), [])
        self.assertEqual(bars_for(3, TRIANGLE[1:]), [])
        self.assertEqual(bars_for(3, TRIANGLE), [TRIANGLE_BAR])
        self.assert_bars(3, TRIANGLE * 2, 2)
        self.assert_bars(4, SQUARE, 3)
        self.assert_bars(7, [(0, 1), (0, 2), (0, 3), (0, 4), (0, 5), (0, 6), (1, 2), (3, 4)], 4)


if __name__ == "__main__":
    unittest.main()
