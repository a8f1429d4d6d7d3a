import itertools
import time
import unittest

from standtogether.bars import answer, is_bar, least_bar
from standtogether.whole import tree_of
from support import (
    BIG, ODD_THINGS, STAR, STAR_BAR, TRIANGLE, TRIANGLE_BAR, Picker, assert_answers_stay,
    assert_guests_and_parties_refused, is_bar_by_words, is_way_by_words, large_parties, many_parties, nested,
    part_at, paths, put_at, seatings_of, shortest_ways, trees_by_rows, wrong_parts,
)


def least_bar_by_search(n, parties):
    bars = []
    for a, b, c in itertools.combinations(range(n), 3):
        choices = [shortest_ways(parties, *leg, n) for leg in [(a, b, c), (a, c, b), (b, c, a)]]
        if all(choices):
            bars.append((a, b, c, tuple(min(choice) for choice in choices)))
    return min(bars, key=lambda bar: (sum(len(way) // 2 for way in bar[3]), bar), default=None)


def least_bar_by_all_bars(n, parties, longest):
    """Every bar whose ways have at most so many parties, guests and parties over and over too."""
    bars = []
    for a, b, c in itertools.combinations(range(n), 3):
        choices = []
        for one, other, third in [(a, b, c), (a, c, b), (b, c, a)]:
            parts = [
                part for many in range(1, longest + 1)
                for part in itertools.product(*[range(n if k % 2 else len(parties)) for k in range(2 * many)])
            ]
            choices.append([
                (one,) + part for part in parts if is_way_by_words(n, parties, (one,) + part, one, other, third)
            ])
        bars.extend((a, b, c, ways) for ways in itertools.product(*choices))
    return min(bars, key=lambda bar: (sum(len(way) // 2 for way in bar[3]), bar), default=None)


class IsBarTest(unittest.TestCase):
    def test_bars(self):
        loop = [(0, 1), (0, 2), (1, 2), (0, 1, 3), (0,), (1, 3)]
        for n, parties, bar in [
            (3, TRIANGLE, TRIANGLE_BAR),
            (4, STAR, STAR_BAR),
            (7, STAR, STAR_BAR),
            (4, loop, TRIANGLE_BAR),
            # A party more than once, a guest more than once, a guest ahead of a party and behind it.
            (4, loop, (0, 1, 2, ((0, 0, 1, 0, 0, 0, 1), (0, 1, 2), (1, 2, 2)))),
            (4, loop, (0, 1, 2, ((0, 0, 0, 0, 1), (0, 1, 2), (1, 2, 2)))),
            (4, loop, (0, 1, 2, ((0, 4, 0, 4, 0, 0, 1), (0, 1, 2), (1, 2, 2)))),
            (4, loop, (0, 1, 2, ((0, 3, 1), (0, 1, 2), (1, 2, 2)))),
            (4, loop, (0, 1, 2, ((0, 3, 3, 5, 1), (0, 1, 2), (1, 5, 1, 2, 2)))),
            (4, loop, (0, 1, 2, ((0, 3, 3, 3, 0, 3, 3, 5, 1), (0, 1, 2, 1, 0, 1, 2), (1, 2, 2, 2, 2)))),
            (3, [(0, 2), (1, 2), (0, 1), (0, 1)], (0, 1, 2, ((0, 3, 1), (0, 0, 2), (1, 1, 2)))),
            (7, [(0, 6)] * 5 + [(0, 3), (3, 6), (3, 6)], (0, 3, 6, ((0, 5, 3), (0, 4, 6), (3, 7, 6)))),
        ]:
            self.assertIs(is_bar(n, parties, bar), True, bar)
            self.assertTrue(is_bar_by_words(n, parties, bar), bar)
            self.assertEqual(seatings_of(n, parties), ())

    def test_long_ways(self):
        way = (0, 0, 1) + (0, 0, 0, 1) * 500
        self.assertIs(is_bar(3, TRIANGLE, (0, 1, 2, (way, (0, 1, 2), (1, 2, 2)))), True)
        self.assertIs(is_bar(3, TRIANGLE, (0, 1, 2, (way + (0, 0), (0, 1, 2), (1, 2, 2)))), False)
        self.assertIs(is_bar(3, TRIANGLE, (0, 1, 2, (way + (1, 0, 0, 1), (0, 1, 2), (1, 2, 2)))), False)

    def test_what_is_no_bar(self):
        good = TRIANGLE_BAR[3]
        parties = TRIANGLE + [(0, 1, 2), (0, 1, 3), (3,)]
        for thing in [
            # Guests that do not rise, are alike or beyond.
            (0, 2, 1, good), (1, 0, 2, good), (2, 1, 0, good), (1, 0, 2, ((1, 0, 0), (1, 2, 2), (0, 1, 2))),
            (0, 2, 1, ((0, 1, 2), (0, 0, 1), (2, 2, 1))), (0, 0, 1, good), (0, 1, 1, good), (0, 0, 0, good),
            (1, 1, 2, ((1, 0, 1), (1, 2, 2), (1, 2, 2))), (0, 1, 4, good), (-1, 0, 1, good), (0, 1, 4, (
                (0, 0, 1), (0, 1, 4), (1, 2, 4))),
            # Numbers of no party.
            (0, 1, 2, ((0, 6, 1), (0, 1, 2), (1, 2, 2))), (0, 1, 2, ((0, -1, 1), (0, 1, 2), (1, 2, 2))),
            (0, 1, 2, ((0, -6, 1), (0, 1, 2), (1, 2, 2))), (0, 1, 2, ((0, 0, 1), (0, 1, 2), (1, -4, 2))),
            (0, 1, 2, ((0, BIG, 1), (0, 1, 2), (1, 2, 2))),
            # A party without the guest ahead or behind, or with the third one.
            (0, 1, 2, ((0, 5, 1), (0, 1, 2), (1, 2, 2))), (0, 1, 2, ((0, 5, 3, 4, 1), (0, 1, 2), (1, 2, 2))),
            (0, 1, 2, ((0, 4, 3, 5, 1), (0, 1, 2), (1, 2, 2))), (0, 1, 2, ((0, 3, 1), (0, 1, 2), (1, 2, 2))),
            (0, 1, 2, ((0, 0, 1), (0, 3, 2), (1, 2, 2))), (0, 1, 2, ((0, 0, 1), (0, 1, 2), (1, 3, 2))),
            (0, 1, 2, ((0, 1, 2, 2, 1), (0, 1, 2), (1, 2, 2))), (0, 1, 2, ((0, 0, 1, 0, 3, 4, 1), good[1], good[2])),
            (0, 1, 3, ((0, 0, 1), (0, 4, 3), (1, 4, 3))),
            # Ways that begin or end elsewhere, a guest alone, ways turned, in another order, two or four.
            (0, 1, 2, ((1, 0, 1), (0, 1, 2), (1, 2, 2))), (0, 1, 2, ((0, 0, 0), (0, 1, 2), (1, 2, 2))),
            (0, 1, 2, ((3, 4, 1), (0, 1, 2), (1, 2, 2))), (0, 1, 2, ((0, 4, 3), (0, 1, 2), (1, 2, 2))),
            (0, 1, 2, ((0,), (0, 1, 2), (1, 2, 2))), (0, 1, 2, ((1,), (0, 1, 2), (1, 2, 2))),
            (0, 1, 2, ((), (0, 1, 2), (1, 2, 2))), (0, 1, 2, ((0, 0), (0, 1, 2), (1, 2, 2))),
            (0, 1, 2, ((0, 0, 1, 0), (0, 1, 2), (1, 2, 2))), (0, 1, 2, ((0, 0, 1), (0, 1, 2), (1, 2, 2, 2))),
            (0, 1, 2, ((1, 0, 0), (0, 1, 2), (1, 2, 2))), (0, 1, 2, ((0, 0, 1), (2, 1, 0), (1, 2, 2))),
            (0, 1, 2, ((0, 0, 1), (0, 1, 2), (2, 2, 1))), (0, 1, 2, (good[1], good[0], good[2])),
            (0, 1, 2, (good[0], good[2], good[1])), (0, 1, 2, good[::-1]), (0, 1, 2, good[:2]), (0, 1, 2, good[1:]),
            (0, 1, 2, good + good[2:]), (0, 1, 2, good + ((),)), (0, 1, 2, ()), (0, 1, 2, good[0]),
            # Lists and dicts in the place of tuples, truths in the place of numbers.
            [0, 1, 2, good], (0, 1, 2, list(good)), (0, 1, 2, ([0, 0, 1], (0, 1, 2), (1, 2, 2))),
            (0, 1, 2, {0: good[0], 1: good[1], 2: good[2]}), {0: 0, 1: 1, 2: 2, 3: good},
            (False, 1, 2, good), (0, True, 2, good), (0, 1, 2, ((False, 0, 1), (0, 1, 2), (1, 2, 2))),
            (0, 1, 2, ((0, False, 1), (0, 1, 2), (1, 2, 2))), (0, 1, 2, ((0, 0, True), (0, 1, 2), (1, 2, 2))),
            (0, 1, 2, ((0, 0, 1), (0, True, 2), (1, 2, 2))), (0, 1, 2, ((0, 0, 1), (0, 1, 2), (True, 2, 2))),
            # A part more or less, and other things.
            (0, 1, 2), (0, 1, 2, good, ()), (0, 1, 2, good, good), (0, 1, good), (1, 2, good), ((0, 1, 2), good),
            (0, 1, 2) + good, ("bar", TRIANGLE_BAR), (TRIANGLE_BAR,), good, (None, 1, 2, good), ("0", 1, 2, good),
            (0, 1, 2, None), (0, 1, 2, "abc"), (0, 1, 2, ("abc", "abc", "abc")), ((0,), 1, 2, good), ([], 1, 2, good),
            (0, 1, {}, good), (0, 1, 2, ((0, [], 1), (0, 1, 2), (1, 2, 2))), (0, 1, 2, nested("tuple", 19)),
            (0, 1, 2, (nested("tuple", 18),) * 3), (0, 1, 2, (nested("list", 18),) * 3),
        ] + ODD_THINGS:
            self.assertIs(is_bar(4, parties, thing), False, thing)
            self.assertFalse(is_bar_by_words(4, parties, thing), thing)
        self.assertIs(is_bar(4, parties, TRIANGLE_BAR), True)

    def test_a_part_changed_anywhere(self):
        for n, parties, bar in [
            (3, TRIANGLE, TRIANGLE_BAR), (4, STAR, STAR_BAR), (4, STAR + [(0, 1), (1,), (0, 1, 2)], STAR_BAR),
        ]:
            for path in paths(bar):
                for part in wrong_parts(part_at(bar, path)):
                    thing = put_at(bar, path, part)
                    self.assertIs(is_bar(n, parties, thing), is_bar_by_words(n, parties, thing), thing)

    def test_all_short_tuples_as_a_way(self):
        parties = TRIANGLE + [(0, 1, 3)]
        for many in range(6):
            for way in itertools.product(range(-1, 5), repeat=many):
                for place in range(3):
                    thing = put_at(TRIANGLE_BAR, (3, place), way)
                    self.assertIs(is_bar(4, parties, thing), is_bar_by_words(4, parties, thing), thing)

    def test_bars_of_no_parties_and_of_few_guests(self):
        for n in (1, 2, 3, 7):
            self.assertIs(is_bar(n, [], TRIANGLE_BAR), False)
            self.assertIs(is_bar(n, [(0,)], TRIANGLE_BAR), False)
        self.assertIs(is_bar(2, [(0, 1), (0,), (1,)], TRIANGLE_BAR), False)

    def test_a_bar_shows_that_no_seating_keeps_the_parties(self):
        picker = Picker(51)
        shown = {True: 0, False: 0}
        for number in range(600):
            n = 3 + number % 5
            parties = picker.parties(n, 3 + number % 6)
            bar = least_bar_by_search(n, parties)
            if bar is None:
                continue
            self.assertIs(is_bar(n, parties, bar), True, (parties, bar))
            self.assertEqual(seatings_of(n, parties), (), (parties, bar))
            parties[picker.number(len(parties))] = picker.parties(n, 1)[0]
            told = is_bar(n, parties, bar)
            self.assertIs(told, is_bar_by_words(n, parties, bar), (parties, bar))
            if told:
                self.assertEqual(seatings_of(n, parties), (), (parties, bar))
            shown[told] += 1
        self.assertGreater(min(shown.values()), 50)


class AnswerTest(unittest.TestCase):
    def assert_answer(self, n, parties, wanted):
        """wanted: the tree where there is a seating that keeps the parties, None where there is none."""
        told = answer(n, parties)
        self.assertIs(type(told), tuple)
        if wanted is not None:
            self.assertEqual(told, ("tree", wanted), (n, parties))
        else:
            self.assertEqual(len(told), 2)
            self.assertEqual(told[0], "bar", (n, parties))
            self.assertIs(is_bar(n, parties, told[1]), True, (n, parties, told))
            self.assertTrue(is_bar_by_words(n, parties, told[1]), (n, parties, told))

    def test_by_hand(self):
        self.assertEqual(answer(1, []), ("tree", 0))
        self.assertEqual(answer(3, [(0, 1), (1, 2)]), ("tree", ("row", (0, 1, 2))))
        self.assertEqual(answer(3, TRIANGLE), ("bar", TRIANGLE_BAR))

    def test_many_parties_of_one_to_five_guests(self):
        kinds = {"tree": 0, "bar": 0}
        for n, parties in many_parties():
            left = seatings_of(n, parties)
            self.assert_answer(n, parties, trees_by_rows(n)[left] if left else None)
            kinds["tree" if left else "bar"] += 1
        self.assertGreater(min(kinds.values()), 1000)

    def test_parties_of_six_and_seven(self):
        for n, parties in large_parties(54, 60):
            for many in range(9):
                wanted = tree_of(n, parties[:many])
                self.assertIs(wanted is not None, seatings_of(n, parties[:many]) != ())
                self.assert_answer(n, parties[:many], wanted)


class LeastBarTest(unittest.TestCase):
    def test_by_hand(self):
        self.assertIsNone(least_bar(1, []))
        self.assertIsNone(least_bar(3, [(0, 1), (1, 2)]))
        self.assertEqual(least_bar(3, TRIANGLE), TRIANGLE_BAR)
        self.assertEqual(least_bar(4, STAR), STAR_BAR)
        # A bar of three parties goes ahead of one of six, though its guests are greater.
        self.assertEqual(
            least_bar(7, [(0, 1), (0, 2), (0, 3), (4, 5), (5, 6), (4, 6)]),
            (4, 5, 6, ((4, 3, 5), (4, 5, 6), (5, 4, 6))))
        # Of like parties the first one; a party counts as often as it stands.
        self.assertEqual(
            least_bar(3, [(0, 1), (0, 1), (0, 2), (0, 2), (1, 2), (1, 2)]),
            (0, 1, 2, ((0, 0, 1), (0, 2, 2), (1, 4, 2))))
        # Two ways of as many parties: the least party first, then the least guest.
        self.assertEqual(
            least_bar(5, [(0, 3, 4), (1, 3, 4), (0, 2), (1, 2)]),
            (0, 1, 2, ((0, 0, 3, 1, 1), (0, 2, 2), (1, 3, 2))))

    def test_against_a_search(self):
        for n, parties in many_parties():
            self.assertEqual(least_bar(n, parties), least_bar_by_search(n, parties), (n, parties))

    def test_against_all_bars(self):
        for parties in itertools.combinations_with_replacement([(0, 1), (0, 2), (1, 2), (0, 1, 2), (0,)], 3):
            for order in sorted(set(itertools.permutations(parties))):
                self.assertEqual(least_bar(3, list(order)), least_bar_by_all_bars(3, order, 2), order)
        stars = [STAR, STAR[::-1], [(0, 3), (1, 3), (2, 3)], [(0, 1), (1, 2), (1, 3)]]
        for parties in stars + [TRIANGLE, [(0, 1), (2, 3)]]:
            self.assertEqual(least_bar(4, parties), least_bar_by_all_bars(4, parties, 2), parties)

    def test_none_just_where_there_is_a_tree(self):
        for n, parties in itertools.chain(many_parties(), large_parties(55, 60)):
            told = least_bar(n, parties)
            self.assertIs(told is None, tree_of(n, parties) is not None, (n, parties))
            if told is not None:
                self.assertIs(is_bar(n, parties, told), True, (n, parties))

    def test_six_and_seven_guests_against_a_search(self):
        picker = Picker(53)
        for number in range(60):
            n = 6 + number % 2
            # Two guests a party make long ways, and many of one length.
            parties = [tuple(sorted(picker.mixed(range(n))[:2 + picker.number(2)])) for _ in range(8 - number % 3)]
            self.assertEqual(least_bar(n, parties), least_bar_by_search(n, parties), (n, parties))

    def test_six_and_seven_guests_with_eight_parties_in_good_time(self):
        start = time.monotonic()
        for n, parties in large_parties(56, 200):
            least_bar(n, parties)
            answer(n, parties)
        least_bar(7, [(0, 1, 2, 3, 4, 5, 6)] * 8)
        least_bar(7, [(0, 1), (1, 2), (2, 3), (3, 4), (4, 5), (5, 6), (0, 6), (0, 3)])
        self.assertLess(time.monotonic() - start, 60)


class RefusedTest(unittest.TestCase):
    def test_no_guests_and_then_no_parties(self):
        assert_guests_and_parties_refused(self, (answer, least_bar), (is_bar,))


class NothingChangesTest(unittest.TestCase):
    def test_what_is_handed_in_is_the_same_afterwards_and_answers_stay(self):
        for n, parties in [(1, []), (3, TRIANGLE), (4, STAR), (4, [(0, 1), (2, 3)])] + large_parties(57, 20):
            for ask in (answer, least_bar):
                assert_answers_stay(self, ask, n, parties)
            for thing in [TRIANGLE_BAR, STAR_BAR, list(STAR_BAR), (0, 1, 2, [[0], {}, ()])] + ODD_THINGS:
                assert_answers_stay(self, is_bar, n, parties, thing)

    def test_nothing_hangs_on_what_is_done_to_the_parties_later(self):
        parties = list(TRIANGLE)
        told = answer(3, parties)
        parties.pop()
        self.assertEqual(told, ("bar", TRIANGLE_BAR))
        self.assertEqual(answer(3, parties), ("tree", ("row", (1, 0, 2))))
        self.assertIsNone(least_bar(3, parties))
        self.assertIs(is_bar(3, parties, TRIANGLE_BAR), False)


if __name__ == "__main__":
    unittest.main()
