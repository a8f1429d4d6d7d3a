import copy
import itertools
import unittest

from standtogether.errors import NoGuests, NoParties
from standtogether.parties import first_broken, is_parties, is_party, is_seating, sits
from support import BIG, NO_GUEST_NUMBERS, NO_PARTIES_OF_FOUR, ODD_THINGS, all_seatings, assert_refused


class GuestsTest(unittest.TestCase):
    def test_no_number_of_guests_is_refused_whatever_else_is_handed_in(self):
        for n in NO_GUEST_NUMBERS:
            for thing in ODD_THINGS + [(0,), [(0,)], [(0, 0)]]:
                with self.subTest(n=n, thing=thing):
                    assert_refused(self, NoGuests, is_party, n, thing)
                    assert_refused(self, NoGuests, is_parties, n, thing)
                    assert_refused(self, NoGuests, is_seating, n, thing)
                    assert_refused(self, NoGuests, first_broken, n, thing, (0,))
                    assert_refused(self, NoGuests, first_broken, n, [(0,)], thing)

    def test_each_number_from_one_to_seven_is_taken(self):
        for n in range(1, 8):
            everyone = tuple(range(n))
            self.assertIs(is_party(n, everyone), True)
            self.assertIs(is_party(n, everyone + (n,)), False)
            self.assertIs(is_parties(n, [everyone]), True)
            self.assertIs(is_seating(n, everyone), True)
            self.assertIsNone(first_broken(n, [everyone], everyone))


class PartyTest(unittest.TestCase):
    def test_the_parties_are_just_the_rising_tuples(self):
        for n in range(1, 5):
            rising = [
                party for many in range(1, n + 1) for party in itertools.combinations(range(n), many)
            ]
            for many in range(4):
                for thing in itertools.product(range(-1, n + 2), repeat=many):
                    self.assertIs(is_party(n, thing), thing in rising, (n, thing))

    def test_one_guest_and_all_guests(self):
        for n in (1, 7):
            for guest in range(n):
                self.assertIs(is_party(n, (guest,)), True)
            self.assertIs(is_party(n, tuple(range(n))), True)

    def test_what_is_no_party(self):
        for thing in [
            (), (1, 0), (0, 2, 1), (1, 1), (0, 1, 1), (0, 7), (7,), (-1,), (-1, 0), (True,), (False,), (0, True),
            (False, 1), (True, 2), [0], [0, 1], 0, 3, True, (0, None), (0, "1"), (0, [1]), (0, (1,)), ((0, 1),),
            (0, BIG), (-BIG, 0), {0: 0, 1: 1}, "01", (0, {}),
        ] + ODD_THINGS:
            self.assertIs(is_party(7, thing), False, thing)


class PartiesTest(unittest.TestCase):
    def test_what_is_parties(self):
        self.assertIs(is_parties(1, []), True)
        self.assertIs(is_parties(7, []), True)
        self.assertIs(is_parties(1, [(0,)] * 8), True)
        self.assertIs(is_parties(4, [(0, 1), (1, 2), (0, 1), (0, 1, 2, 3)]), True)
        self.assertIs(is_parties(7, [(guest, 6) for guest in range(6)] + [(0,), (6,)]), True)

    def test_what_is_no_parties(self):
        for thing in NO_PARTIES_OF_FOUR:
            self.assertIs(is_parties(4, thing), False, thing)
        for thing in ODD_THINGS:
            self.assertIs(is_parties(4, thing), thing == [], thing)

    def test_a_party_beyond_at_any_place(self):
        for place in range(8):
            parties = [(0, 1)] * 8
            parties[place] = (0, 2)
            self.assertIs(is_parties(3, parties), True)
            self.assertIs(is_parties(2, parties), False)

    def test_no_parties_are_refused(self):
        for thing in NO_PARTIES_OF_FOUR:
            with self.subTest(thing=thing):
                assert_refused(self, NoParties, first_broken, 4, thing, (0, 1, 2, 3))
        for thing in ODD_THINGS:
            if thing != []:
                assert_refused(self, NoParties, first_broken, 4, thing, (0, 1, 2, 3))


class SeatingTest(unittest.TestCase):
    def test_the_seatings_are_just_the_orders_of_all_guests(self):
        for n in range(1, 5):
            for many in range(n + 2):
                for thing in itertools.product(range(-1, n + 1), repeat=many):
                    self.assertIs(is_seating(n, thing), sorted(thing) == list(range(n)), (n, thing))

    def test_seatings_of_seven(self):
        self.assertIs(is_seating(7, (3, 1, 4, 0, 5, 2, 6)), True)
        self.assertIs(is_seating(7, (6, 5, 4, 3, 2, 1, 0)), True)

    def test_what_is_no_seating(self):
        for thing in [
            (0, 1, 1), (0, 0, 1, 2), (0, 1), (0, 1, 3), (1, 2, 3), (-1, 0, 1), (0, True, 2), (False, 1, 2),
            [0, 1, 2], (0, 1, 2, 3), (0, 1, None), (0, 1, "2"), (0, 1, [2]), (0, 1, (2,)), (0, 1, BIG),
            {0: 0, 1: 1, 2: 2}, "012", ((0, 1, 2),),
        ] + ODD_THINGS:
            self.assertIs(is_seating(3, thing), False, thing)
        self.assertIs(is_seating(1, (False,)), False)
        self.assertIs(is_seating(2, (0, True)), False)


class SitsTest(unittest.TestCase):
    def test_against_all_stretches_of_all_seatings(self):
        for n in range(1, 6):
            parties = [
                party for many in range(1, n + 1) for party in itertools.combinations(range(n), many)
            ]
            for seating in all_seatings(n):
                stretches = [
                    tuple(sorted(seating[low:high])) for low in range(n) for high in range(low + 1, n + 1)
                ]
                for party in parties:
                    self.assertIs(sits(seating, party), party in stretches, (seating, party))

    def test_first_place_last_place_and_any_order(self):
        seating = (5, 2, 6, 0, 3, 1, 4)
        for party in [(5,), (4,), (2, 5, 6), (0, 2, 5, 6), (1, 3, 4), (0, 1, 3), (0, 1, 2, 3, 4, 5, 6)]:
            self.assertIs(sits(seating, party), True, party)
        for party in [(4, 5), (5, 6), (0, 1), (0, 2), (0, 1, 4), (0, 1, 2, 3, 4, 5), (3, 4)]:
            self.assertIs(sits(seating, party), False, party)


class FirstBrokenTest(unittest.TestCase):
    def test_the_first_one_that_does_not_sit_together(self):
        seating = (2, 0, 3, 1)
        self.assertEqual(first_broken(4, [(0, 1)], seating), 0)
        self.assertEqual(first_broken(4, [(0, 2), (1, 3), (0, 1), (1, 2)], seating), 2)
        self.assertEqual(first_broken(4, [(0, 2)] * 7 + [(1, 2)], seating), 7)
        self.assertEqual(first_broken(4, [(0, 2), (0, 1), (0, 1)], seating), 1)

    def test_none_where_all_do(self):
        self.assertIsNone(first_broken(4, [], (2, 0, 3, 1)))
        self.assertIsNone(first_broken(4, [(0, 2), (0, 3), (1, 3), (0, 1, 2, 3)], (2, 0, 3, 1)))
        self.assertIsNone(first_broken(1, [(0,)] * 8, (0,)))

    def test_against_the_list_of_all_broken_ones(self):
        parties = [(0, 1), (2, 3), (1, 2, 3), (0, 3)]
        for some in itertools.permutations(parties, 3):
            for seating in all_seatings(4):
                broken = [number for number, party in enumerate(some) if not sits(seating, party)]
                self.assertEqual(first_broken(4, list(some), seating), broken[0] if broken else None)


class NothingChangesTest(unittest.TestCase):
    def test_what_is_handed_in_is_the_same_afterwards_and_answers_stay(self):
        for parties in [[], [(0, 1), (2, 3), (0, 1)], [(1, 2), (0, 3)]]:
            before = copy.deepcopy(parties)
            for ask in [
                lambda: is_parties(4, parties), lambda: is_party(4, parties), lambda: is_seating(4, parties),
                lambda: first_broken(4, parties, (0, 1, 2, 3)),
            ]:
                self.assertEqual(ask(), ask())
                self.assertEqual(parties, before)
        for thing in ODD_THINGS + NO_PARTIES_OF_FOUR:
            before = copy.deepcopy(thing)
            for ask in (is_party, is_parties, is_seating):
                self.assertIs(ask(4, thing), ask(4, thing))
                self.assertEqual(thing, before)
            if not is_parties(4, thing):
                assert_refused(self, NoParties, first_broken, 4, thing, (0, 1, 2, 3))
                self.assertEqual(thing, before)

    def test_nothing_hangs_on_what_is_done_to_the_parties_later(self):
        parties = [(0, 1)]
        self.assertIsNone(first_broken(3, parties, (0, 1, 2)))
        parties.append((0, 2))
        self.assertEqual(first_broken(3, parties, (0, 1, 2)), 1)
        self.assertIsNone(first_broken(3, [(0, 1)], (0, 1, 2)))


if __name__ == "__main__":
    unittest.main()
