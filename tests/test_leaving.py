import itertools
import unittest

from standtogether.leaving import is_guest_choice, least_guest_choices, links_for, links_show
from support import (
    BIG, ODD_THINGS, RING, STAR, STAR_BAR, TRIANGLE, TRIANGLE_BAR, LeavingOutTests, is_rising_tuple, large_parties,
    nested, some_parties, together,
)


def has_row_of(others, parties):
    """Whether some row of these guests, all gone through, has each party's guests among them side by side."""
    shares = [tuple(guest for guest in party if guest in others) for party in parties]
    shares = [share for share in shares if share]
    return any(all(together(row, share) for share in shares) for row in itertools.permutations(others))


def is_choice_by_words(n, parties, thing):
    """Point 73: a rising tuple, not of all guests, that leaves the others a row."""
    if not is_rising_tuple(thing, n) or len(thing) == n:
        return False
    return has_row_of([guest for guest in range(n) if guest not in thing], parties)


def all_choices_by_words(n, parties):
    some = [thing for few in range(n + 1) for thing in itertools.combinations(range(n), few)]
    return [thing for thing in some if is_choice_by_words(n, parties, thing)]


def least_by_words(n, parties):
    """As few as can be, rising: asked number by number, so that the long look ends early."""
    for few in range(n):
        found = [
            thing for thing in itertools.combinations(range(n), few) if is_choice_by_words(n, parties, thing)]
        if found:
            return found


def guests_in_bar(bar):
    return set(bar[:3]) | {part for way in bar[3] for part in way[::2]}


class IsGuestChoiceTest(unittest.TestCase):
    def test_by_hand(self):
        for n, parties, thing, wanted in [
            (1, [], (), True),
            (1, [(0,)], (), True),
            (1, [], (0,), False),
            (2, [(0, 1)], (0,), True),
            (2, [(0, 1)], (0, 1), False),
            (3, [], (0, 1), True),
            (3, [], (0, 1, 2), False),
            (3, TRIANGLE, (), False),
            (3, TRIANGLE, (0,), True),
            (3, TRIANGLE, (1,), True),
            (3, TRIANGLE, (2,), True),
            (3, TRIANGLE, (0, 2), True),
            (3, TRIANGLE, (0, 1, 2), False),
            (3, TRIANGLE, (3,), False),
            (3, TRIANGLE, (-1,), False),
            (3, TRIANGLE, (1, 0), False),
            (3, TRIANGLE, (1, 1), False),
            (4, TRIANGLE, (3,), False),
            (4, STAR, (0,), True),
            (4, STAR, (3,), True),
            (4, STAR, (), False),
            (7, RING, (), False),
            (7, RING, (4,), True),
            # Without guest 6 the guests 0, 3, 1 and 4 are a ring still.
            (7, [(0, 3, 6), (1, 4, 6), (0, 5, 6), (1, 3, 6), (0, 4), (2, 5)], (6,), False),
        ]:
            self.assertIs(is_guest_choice(n, parties, thing), wanted, (n, parties, thing))

    def test_a_party_is_there_by_its_guests_among_the_others(self):
        # Without guest 3 the parties are a triangle still; whole parties that lose a guest are not gone.
        wide = [(0, 1, 3), (0, 2, 3), (1, 2, 3)]
        self.assertIs(is_guest_choice(4, wide, (3,)), False)
        self.assertIs(is_guest_choice(4, wide, (0,)), True)
        self.assertIs(is_guest_choice(5, wide, (4,)), False)
        # Without guest 0 a party of it alone is gone, and binds nobody.
        self.assertIs(is_guest_choice(3, [(0,), (0, 1), (0, 2), (1, 2)], (0,)), True)

    def test_of_anything(self):
        for thing in [
            [], [0], [0, 1], {}, {0: True}, None, "", "0", 0, 1, True, False, (True,), (False,), (0, True), (False, 1),
            ("0",), (None,), ((0,),), ([0],), ({},), (0, None), (0, "1"), (0, (1,)), (0, []), (0, {}), (BIG,),
            (0, BIG), (-BIG, 0), (0, 3), (3,), (-1, 0), (1, 0), (2, 1), (0, 0), (0, 1, 1), (0, 1, 2), (0, 1, 2, 3),
            (nested("tuple", 19),), (0, nested("list", 19)),
        ] + [odd for odd in ODD_THINGS if odd != ()]:
            self.assertIs(is_guest_choice(3, TRIANGLE, thing), False, thing)
            self.assertIs(is_guest_choice(3, TRIANGLE[:2], thing), False, thing)
            self.assertIs(is_guest_choice(3, [], thing), False, thing)
        for parties in ([], TRIANGLE[:2]):
            self.assertIs(is_guest_choice(3, parties, ()), True)

    def test_all_short_tuples(self):
        for n, parties in [(2, [(0, 1)]), (3, TRIANGLE), (3, TRIANGLE[:2]), (4, STAR), (4, TRIANGLE)]:
            for many in range(5):
                for thing in itertools.product(range(-1, n + 1), repeat=many):
                    wanted = is_choice_by_words(n, parties, thing)
                    self.assertIs(is_guest_choice(n, parties, thing), wanted, (parties, thing))

    def assert_choices(self, n, parties):
        wanted = all_choices_by_words(n, parties)
        for few in range(n + 1):
            for thing in itertools.combinations(range(n), few):
                self.assertIs(is_guest_choice(n, parties, thing), thing in wanted, (n, parties, thing))
                self.assertIs(is_guest_choice(n, parties, list(thing)), False)

    def test_parties_of_one_to_five_guests(self):
        for n, parties in some_parties()[::3]:
            self.assert_choices(n, parties)

    def test_parties_of_six_and_seven_guests(self):
        for n, parties in large_parties(731, 12):
            self.assert_choices(n, parties)
        self.assert_choices(7, RING)


class LeastGuestChoicesTest(unittest.TestCase):
    def test_by_hand(self):
        for n, parties, wanted in [
            (1, [], [()]),
            (1, [(0,)] * 8, [()]),
            (3, TRIANGLE[1:], [()]),
            (3, TRIANGLE, [(0,), (1,), (2,)]),
            (4, STAR, [(0,), (1,), (2,), (3,)]),
            (5, [(0, 1), (0, 2), (1, 2), (0, 3), (0, 4), (3, 4)], [(0,)]),
            (7, RING, [(k,) for k in range(7)]),
            (4, [(0, 1), (0, 2), (0, 3), (1, 2), (1, 3), (2, 3)], [(0, 1), (0, 2), (0, 3), (1, 2), (1, 3), (2, 3)]),
        ]:
            told = least_guest_choices(n, parties)
            self.assertIs(type(told), list)
            self.assertEqual(told, wanted, (n, parties))


class LinksShowTest(unittest.TestCase):
    def test_by_hand(self):
        self.assertEqual(links_show(3, TRIANGLE, [TRIANGLE_BAR]), 1)
        self.assertEqual(links_show(3, TRIANGLE, [TRIANGLE_BAR] * 2), 1)
        self.assertEqual(links_show(4, STAR, [STAR_BAR]), 1)
        # Guests count, not parties: one guest in both bars is enough, or none is.
        joined = TRIANGLE + [(0, 3), (0, 4), (3, 4)]
        self.assertEqual(
            links_show(5, joined, [TRIANGLE_BAR, (0, 3, 4, ((0, 3, 3), (0, 4, 4), (3, 5, 4)))]), 1)
        apart = TRIANGLE + [(3, 4), (3, 5), (4, 5)]
        other = (3, 4, 5, ((3, 3, 4), (3, 4, 5), (4, 5, 5)))
        self.assertEqual(links_show(6, apart, [TRIANGLE_BAR, other]), 2)
        # A guest within a way stands in the bar, too.
        linked = STAR + [(4, 5), (4, 6), (5, 6)]
        self.assertEqual(links_show(7, linked, [STAR_BAR, (4, 5, 6, ((4, 3, 5), (4, 4, 6), (5, 5, 6)))]), 2)
        inner = STAR + [(0, 4), (0, 5), (4, 5)]
        self.assertEqual(links_show(6, inner, [STAR_BAR, (0, 4, 5, ((0, 3, 4), (0, 4, 5), (4, 5, 5)))]), 1)


class LeavingOutTest(LeavingOutTests, unittest.TestCase):
    is_one, least, show, tell = map(staticmethod, (is_guest_choice, least_guest_choices, links_show, links_for))
    least_by_words = staticmethod(least_by_words)
    used = staticmethod(guests_in_bar)

    @staticmethod
    def below(n, parties):
        return n

    def test_told_bars_by_hand(self):
        self.assertEqual(links_for(1, []), [])
        self.assertEqual(links_for(3, TRIANGLE[1:]), [])
        self.assertEqual(links_for(3, TRIANGLE), [TRIANGLE_BAR])
        self.assertEqual(links_for(3, TRIANGLE * 2), [TRIANGLE_BAR])
        self.assert_bars(4, [(0, 1), (0, 2), (0, 3), (1, 2), (1, 3), (2, 3)], 2)
        self.assert_bars(7, TRIANGLE + [(3, 4), (3, 5), (4, 5)], 2)
        self.assert_bars(7, RING, 1)


if __name__ == "__main__":
    unittest.main()
