import copy
import itertools
import time
import unittest

from standtogether.bars import is_bar
from standtogether.errors import NoGuests
from standtogether.rounds import (
    all_rounds, first_broken_round, is_round, round_answer, rounds_many, sits_round, turned_parties,
)
from support import (
    BIG, NO_GUEST_NUMBERS, ODD_THINGS, STAR, TRIANGLE, Picker, all_parties, all_seatings, assert_answers_stay,
    assert_guests_and_parties_refused, assert_refused, is_bar_by_words, large_parties, many_parties, nested,
    together,
)

OF_PARTIES = (turned_parties, all_rounds, rounds_many, round_answer)


def every_round(n):
    """All orders of the others behind guest 0, rising as tuples do."""
    return [(0,) + rest for rest in itertools.permutations(range(1, n))]


def together_round(seating, party):
    """Point 61 word by word: from some place on, round the table, come just the party's guests."""
    n = len(seating)
    return any(
        sorted(seating[(start + step) % n] for step in range(len(party))) == list(party) for start in range(n))


def rounds_by_look(n, parties):
    return [one for one in every_round(n) if all(together_round(one, party) for party in parties)]


def turned_by_words(n, parties):
    """Point 62 word by word."""
    turned = []
    for party in parties:
        others = tuple(guest for guest in range(n) if guest not in party)
        if 0 not in party:
            turned.append(party)
        elif others:
            turned.append(others)
    return turned


class IsRoundTest(unittest.TestCase):
    def test_all_seatings(self):
        for n in range(1, 7):
            for seating in all_seatings(n):
                self.assertIs(is_round(n, seating), seating[0] == 0, seating)
                self.assertIs(is_round(n, list(seating)), False, seating)

    def test_all_tuples_of_few(self):
        for n in range(1, 5):
            for many in range(n + 2):
                for thing in itertools.product(range(-1, n + 1), repeat=many):
                    self.assertIs(is_round(n, thing), thing in every_round(n), thing)

    def test_by_hand(self):
        self.assertIs(is_round(1, (0,)), True)
        self.assertIs(is_round(7, (0, 6, 5, 1, 2, 4, 3)), True)
        self.assertIs(is_round(7, (6, 0, 5, 1, 2, 4, 3)), False)

    def test_what_is_no_round(self):
        for thing in [
            (1, 0, 2, 3), (3, 2, 1, 0), (0, 1, 2), (0, 1, 1, 3), (0, 0, 1, 2), (0, 1, 2, 3, 3), (0, 1, 2, 4),
            (0, 1, 2, 3, 4), (0, -1, 2, 3), (0, 1, 2, -1), (0, 1, 2, BIG), [0, 1, 2, 3], {0: 0, 1: 1, 2: 2, 3: 3},
            "0123", (False, 1, 2, 3), (0, True, 2, 3), (0, 2, True, 3), ("0", 1, 2, 3), (0, None, 2, 3),
            (0, (1,), 2, 3), (0, [], 2, 3), (0, {}, 2, 3), ((0, 1, 2, 3),), [(0, 1, 2, 3)],
            (0, nested("tuple", 19), 2, 3), (nested("list", 19), 1, 2, 3),
        ] + ODD_THINGS:
            self.assertIs(is_round(4, thing), False, thing)
        for thing in [(False,), (1,), (0, 0), (0, 1), [0], 0, True] + [odd for odd in ODD_THINGS if odd != (0,)]:
            self.assertIs(is_round(1, thing), False, thing)


class SitsRoundTest(unittest.TestCase):
    def test_by_hand(self):
        for n, seating, party, wanted in [
            (1, (0,), (0,), True),
            (2, (0, 1), (1,), True),
            (2, (0, 1), (0, 1), True),
            (4, (0, 1, 2, 3), (0, 3), True),
            (4, (0, 2, 1, 3), (0, 3), True),
            (4, (0, 2, 1, 3), (0, 2, 3), True),
            (4, (0, 2, 1, 3), (0, 1), False),
            (4, (0, 2, 1, 3), (2, 3), False),
            (4, (0, 2, 1, 3), (1, 2, 3), True),
            (4, (0, 2, 1, 3), (0, 1, 2, 3), True),
            (7, (0, 3, 1, 6, 5, 2, 4), (0, 2, 3, 4), True),
            (7, (0, 3, 1, 6, 5, 2, 4), (0, 2, 3), False),
            (7, (0, 3, 1, 6, 5, 2, 4), (0, 1, 4, 5), False),
            (7, (0, 3, 1, 6, 5, 2, 4), (1, 5, 6), True),
            (7, (0, 3, 1, 6, 5, 2, 4), (1, 2, 5, 6), True),
        ]:
            self.assertIs(sits_round(n, seating, party), wanted, (seating, party))

    def test_all_rounds_and_parties(self):
        for n in range(1, 7):
            for seating in every_round(n):
                for party in all_parties(n):
                    self.assertIs(sits_round(n, seating, party), together_round(seating, party), (seating, party))

    def test_one_guest_all_and_all_but_one_always_sit_together(self):
        for n in range(1, 8):
            for seating in every_round(n)[::7]:
                for many in {1, n, max(n - 1, 1)}:
                    for party in itertools.combinations(range(n), many):
                        self.assertIs(sits_round(n, seating, party), True, (seating, party))

    def test_seven_guests(self):
        for seating in every_round(7)[::23]:
            for party in all_parties(7):
                self.assertIs(sits_round(7, seating, party), together_round(seating, party), (seating, party))


class FirstBrokenRoundTest(unittest.TestCase):
    def test_by_hand(self):
        seating = (0, 2, 1, 3)
        self.assertIsNone(first_broken_round(1, (0,), []))
        self.assertIsNone(first_broken_round(1, (0,), [(0,)] * 8))
        self.assertIsNone(first_broken_round(4, seating, []))
        self.assertIsNone(first_broken_round(4, seating, [(0, 3), (0, 2), (1, 2), (1, 3), (0, 1, 2, 3)]))
        self.assertEqual(first_broken_round(4, seating, [(2, 3)]), 0)
        self.assertEqual(first_broken_round(4, seating, [(0, 3), (0, 1), (2, 3)]), 1)
        self.assertEqual(first_broken_round(4, seating, [(0, 3)] * 7 + [(0, 1)]), 7)
        self.assertEqual(first_broken_round(4, seating, [(0, 1)] * 8), 0)

    def test_against_a_look(self):
        picker = Picker(611)
        for number in range(1500):
            n = 1 + number % 7
            # Whole runs round the table among them, so that the first broken one is often a late one.
            seating = (0,) + tuple(picker.mixed(range(1, n)))
            parties = []
            for _ in range(number % 9):
                start, many = picker.number(n), 1 + picker.number(n)
                parties.append(tuple(sorted((seating + seating)[start:start + many])))
            if parties and number % 3:
                parties[picker.number(len(parties))] = picker.parties(n, 1)[0]
            broken = [k for k, party in enumerate(parties) if not together_round(seating, party)]
            self.assertEqual(first_broken_round(n, seating, parties), broken[0] if broken else None, (seating, parties))


class TurnedPartiesTest(unittest.TestCase):
    def test_by_hand(self):
        for n, parties, wanted in [
            (1, [], []),
            (1, [(0,)] * 8, []),
            (2, [(0,), (1,), (0, 1)], [(1,), (1,)]),
            (4, [], []),
            (4, [(1, 2)], [(1, 2)]),
            (4, [(0, 3)], [(1, 2)]),
            (4, [(0, 1, 2, 3)], []),
            (4, [(0,)], [(1, 2, 3)]),
            (4, [(0, 1, 2, 3), (3,), (0, 1, 2, 3), (0, 3), (0, 1, 2, 3)], [(3,), (1, 2)]),
            (4, [(0, 3), (1, 2), (0, 3), (0, 3), (1, 2)], [(1, 2)] * 5),
            (7, [(2, 5), (0, 2, 5), (0,)], [(2, 5), (1, 3, 4, 6), (1, 2, 3, 4, 5, 6)]),
        ]:
            told = turned_parties(n, parties)
            self.assertIs(type(told), list)
            self.assertEqual(told, wanted, (n, parties))

    def test_each_party_alone(self):
        for n in range(1, 8):
            for party in all_parties(n):
                self.assertEqual(turned_parties(n, [party]), turned_by_words(n, [party]), (n, party))

    def test_many_parties(self):
        picker = Picker(621)
        for number in range(400):
            n = 1 + number % 7
            parties = picker.parties(n, number % 9)
            parties[1:1] = [tuple(range(n))] * (number % 2) if len(parties) < 8 else []
            self.assertEqual(turned_parties(n, parties), turned_by_words(n, parties), (n, parties))

    def test_a_round_keeps_parties_just_where_the_turned_ones_sit_together_behind(self):
        for n in range(1, 6):
            for seating in every_round(n):
                for party in all_parties(n):
                    behind = all(together(seating[1:], one) for one in turned_parties(n, [party]))
                    self.assertIs(sits_round(n, seating, party), behind, (seating, party))

    def test_the_told_list_is_the_askers_own(self):
        parties = [(1, 2), (0, 3), (3,)]
        told = turned_parties(4, parties)
        self.assertIsNot(told, parties)
        told.append((0,))
        told[0] = None
        self.assertEqual(parties, [(1, 2), (0, 3), (3,)])
        self.assertEqual(turned_parties(4, parties), [(1, 2), (1, 2), (3,)])
        untouched = [(1, 2)]
        self.assertIsNot(turned_parties(4, untouched), untouched)


class RoundsTest(unittest.TestCase):
    def assert_rounds(self, n, parties):
        """Whether there is a round, once all that is told of the rounds is right."""
        wanted = rounds_by_look(n, parties)
        told = all_rounds(n, parties)
        self.assertIs(type(told), list)
        self.assertEqual(told, wanted, (n, parties))
        many = rounds_many(n, parties)
        self.assertIs(type(many), int)
        self.assertEqual(many, len(wanted), (n, parties))
        answered = round_answer(n, parties)
        self.assertIs(type(answered), tuple)
        if wanted:
            self.assertEqual(answered, ("round", wanted[0]), (n, parties))
        else:
            word, bar = answered
            self.assertEqual(word, "bar", (n, parties))
            turned = turned_by_words(n, parties)
            self.assertIs(is_bar(n, turned, bar), True, (n, parties, bar))
            self.assertTrue(is_bar_by_words(n, turned, bar), (n, parties, bar))
        return bool(wanted)

    def test_by_hand(self):
        self.assertEqual(all_rounds(1, []), [(0,)])
        self.assertEqual(all_rounds(2, [(0,), (1,), (0, 1)]), [(0, 1)])
        self.assertEqual(all_rounds(3, TRIANGLE), [(0, 1, 2), (0, 2, 1)])
        self.assertEqual(all_rounds(4, [(0, 1), (1, 2), (2, 3), (0, 3)]), [(0, 1, 2, 3), (0, 3, 2, 1)])
        self.assertEqual(all_rounds(4, STAR), [])
        self.assertEqual(rounds_many(7, []), 720)
        self.assertEqual(rounds_many(7, [(0, 1, 2, 3, 4, 5, 6), (0,), (6,), (0, 1, 2, 3, 4, 5)]), 720)
        self.assertEqual(rounds_many(4, STAR), 0)
        self.assertEqual(round_answer(1, [(0,)]), ("round", (0,)))
        self.assertEqual(round_answer(4, [(0, 2), (1, 3)]), ("round", (0, 1, 3, 2)))

    def test_few_guests(self):
        kinds = {True: 0, False: 0}
        for n, parties in itertools.islice(many_parties(), 0, None, 3):
            kinds[self.assert_rounds(n, parties)] += 1
        self.assertGreater(min(kinds.values()), 200)

    def test_six_and_seven_guests(self):
        kinds = {True: 0, False: 0}
        for n, parties in large_parties(631, 40):
            for many in (1, 2, 3, 5, 8):
                kinds[self.assert_rounds(n, parties[:many])] += 1
        self.assertGreater(min(kinds.values()), 30)

    def test_parties_that_leave_a_round_of_six_and_seven(self):
        picker = Picker(632)
        for number in range(40):
            n = 6 + number % 2
            seating = tuple(picker.mixed(range(n)))
            parties = []
            for _ in range(1 + number % 8):
                start, many = picker.number(n), 1 + picker.number(n)
                parties.append(tuple(sorted((seating + seating)[start:start + many])))
            self.assertTrue(self.assert_rounds(n, parties), parties)

    def test_a_change_of_the_told_list_changes_no_later_answer(self):
        parties = [(0, 1), (2, 3)]
        told = all_rounds(4, parties)
        wanted = list(told)
        told.pop()
        told[0] = None
        told.append((3, 2, 1, 0))
        self.assertEqual(all_rounds(4, parties), wanted)
        self.assertEqual(rounds_many(4, parties), len(wanted))
        self.assertEqual(round_answer(4, parties), ("round", wanted[0]))
        self.assertIsNot(all_rounds(4, parties), all_rounds(4, parties))

    def test_seven_guests_and_eight_parties_in_good_time(self):
        start = time.monotonic()
        hard = [(7, [tuple(range(7))] * 8), (7, [(0,)] * 8), (7, [(k, k + 1) for k in range(6)] + [(0, 6), (0, 3)])]
        for n, parties in hard + large_parties(633, 60):
            for ask in OF_PARTIES:
                ask(n, parties)
        self.assertLess(time.monotonic() - start, 60)


class RefusedTest(unittest.TestCase):
    def test_no_guests_and_then_no_parties(self):
        def first_broken_turned(n, parties, seating):
            return first_broken_round(n, seating, parties)

        assert_guests_and_parties_refused(self, OF_PARTIES, (first_broken_turned,))

    def test_no_guests_go_ahead_of_all_else(self):
        for n in NO_GUEST_NUMBERS:
            for thing in [(0, 1, 2, 3), (0, 1)] + ODD_THINGS:
                assert_refused(self, NoGuests, is_round, n, thing)
                assert_refused(self, NoGuests, sits_round, n, (0, 1, 2), thing)
                assert_refused(self, NoGuests, sits_round, n, thing, (0, 1))


class NothingChangesTest(unittest.TestCase):
    def test_what_is_handed_in_is_the_same_afterwards_and_answers_stay(self):
        for n, parties in [(1, []), (1, [(0,)]), (3, TRIANGLE), (4, STAR)] + large_parties(634, 20):
            for ask in OF_PARTIES:
                assert_answers_stay(self, ask, n, parties)
            assert_answers_stay(self, first_broken_round, n, tuple(range(n)), parties)
            for party in parties:
                assert_answers_stay(self, sits_round, n, tuple(range(n)), party)
        for thing in [(0, 1, 2, 3), [0, 1, 2, 3], {0: [1]}] + ODD_THINGS:
            assert_answers_stay(self, is_round, 4, thing)

    def test_nothing_hangs_on_what_is_done_to_the_parties_later(self):
        parties = list(STAR)
        told = (turned_parties(4, parties), all_rounds(4, parties), round_answer(4, parties))
        wanted = copy.deepcopy(told)
        parties.clear()
        self.assertEqual(told, wanted)
        self.assertEqual(rounds_many(4, parties), 6)


if __name__ == "__main__":
    unittest.main()
