import copy
import unittest

from standtogether.errors import NoGuests
from standtogether.tight import first_apart, holds_in, tightened
from support import (
    LARGE_TREES, NO_GUEST_NUMBERS, ODD_THINGS, Picker, all_parties, arrangements, assert_refused, in_least_form,
    large_trees, least_trees, read_rows, together, trees_by_rows,
)


def kept(rows, party):
    return tuple(row for row in rows if together(row, party))


def tightened_twice(n, tree, one, other):
    tight = tightened(n, tree, one)
    return None if tight is None else tightened(n, tight, other)


class TightenedTest(unittest.TestCase):
    def test_by_hand(self):
        for n, tree, party, wanted in [
            (1, 0, (0,), 0),
            (2, ("any", (1, 0)), (0,), ("any", (0, 1))),
            (3, ("any", (0, 1, 2)), (0, 2), ("any", (("any", (0, 2)), 1))),
            (3, ("any", (("any", (0, 2)), 1)), (0, 1), ("row", (1, 0, 2))),
            (3, ("row", (0, 1, 2)), (0, 2), None),
            (3, ("row", (2, 1, 0)), (0, 1), ("row", (0, 1, 2))),
            (4, ("any", (("any", (0, 1)), ("any", (2, 3)))), (1, 2), ("row", (0, 1, 2, 3))),
            (4, ("any", (("any", (0, 1)), 2, 3)), (1, 2, 3), ("row", (0, 1, ("any", (2, 3))))),
            (4, ("any", (("any", (0, 1)), 2, 3)), (1, 2), ("any", (("row", (0, 1, 2)), 3))),
            (4, ("row", (0, 1, ("any", (2, 3)))), (1, 3), ("row", (0, 1, 3, 2))),
            (4, ("row", (("any", (2, 3)), 0, 1)), (0, 3), ("row", (1, 0, 3, 2))),
            (4, ("row", (0, 1, ("any", (2, 3)))), (2, 3), ("row", (0, 1, ("any", (2, 3))))),
            (4, ("row", (0, 1, ("any", (2, 3)))), (0, 2), None),
            (5, ("row", (0, 1, ("any", (2, 3, 4)))), (2, 4), ("row", (0, 1, ("any", (("any", (2, 4)), 3))))),
            (5, ("any", (0, ("row", (1, 2, 3)), 4)), (0, 2), None),
            (5, ("any", (0, ("row", (1, 2, 3)), 4)), (0, 3), ("any", (("row", (0, 3, 2, 1)), 4))),
            (6, ("any", (("any", (0, 1)), ("any", (2, 3)), ("any", (4, 5)))), (1, 3, 5), None),
            (6, ("any", (("any", (0, 1)), ("any", (2, 3)), ("any", (4, 5)))), (1, 3, 4, 5),
             ("row", (0, 1, ("any", (4, 5)), 3, 2))),
        ]:
            self.assertEqual(tightened(n, tree, party), wanted, (tree, party))

    def test_all_trees_of_up_to_five_guests_and_all_parties(self):
        for n in range(1, 6):
            by_rows = trees_by_rows(n)
            for rows, tree in by_rows.items():
                for party in all_parties(n):
                    left = kept(rows, party)
                    wanted = by_rows[left] if left else None
                    self.assertEqual(tightened(n, tree, party), wanted, (tree, party))

    def test_trees_that_are_not_in_least_form(self):
        for n in range(1, 6):
            for least in least_trees(range(n)):
                some = arrangements(least)
                for tree in some if n < 5 else some[-1:]:
                    for party in all_parties(n):
                        self.assertEqual(tightened(n, tree, party), tightened(n, least, party), (tree, party))

    def test_two_parties_in_either_order(self):
        for n in range(1, 6):
            trees = least_trees(range(n))
            parties = all_parties(n)
            for tree in trees if n < 5 else trees[::45]:
                for one in parties:
                    for other in parties:
                        told = tightened_twice(n, tree, one, other)
                        self.assertEqual(told, tightened_twice(n, tree, other, one), (tree, one, other))
                        if told is not None:
                            self.assertEqual(tightened(n, told, one), told, (tree, one, other))

    def test_two_parties_in_either_order_of_six_and_seven(self):
        picker = Picker(7)
        for n, tree in large_trees(31):
            for _ in range(30):
                one, other = picker.parties(n, 2)
                self.assertEqual(
                    tightened_twice(n, tree, one, other), tightened_twice(n, tree, other, one), (tree, one, other))

    def test_the_same_party_again_changes_nothing(self):
        for n in range(1, 6):
            for tree in least_trees(range(n)):
                for party in all_parties(n):
                    told = tightened(n, tree, party)
                    if told is not None:
                        self.assertEqual(tightened(n, told, party), told, (tree, party))

    def test_one_guest_and_all_guests_change_nothing_but_to_the_least_form(self):
        for n in range(1, 6):
            for least in least_trees(range(n)):
                some = arrangements(least)
                for tree in some if n < 5 else some[::29]:
                    for party in [(guest,) for guest in range(n)] + [tuple(range(n))]:
                        self.assertEqual(tightened(n, tree, party), least, (tree, party))
        for n, tree in large_trees(31):
            told = [tightened(n, tree, party) for party in [(guest,) for guest in range(n)] + [tuple(range(n))]]
            self.assertEqual(told, [told[0]] * (n + 1))
            self.assertTrue(in_least_form(told[0]), told[0])
            self.assertEqual(read_rows(told[0]), read_rows(tree))

    def test_trees_of_six_and_seven(self):
        picker = Picker(6)
        for n, tree in large_trees(31):
            rows = read_rows(tree)
            parties = all_parties(n)
            for party in parties if len(rows) < 100 else picker.mixed(parties)[:12]:
                left = kept(rows, party)
                told = tightened(n, tree, party)
                if not left:
                    self.assertIsNone(told, (tree, party))
                    continue
                self.assertTrue(in_least_form(told), (tree, party))
                self.assertEqual(read_rows(told), left, (tree, party))


class ApartTest(unittest.TestCase):
    def assert_apart(self, n, tree, rows, party):
        apart = [row for row in rows if not together(row, party)]
        self.assertIs(holds_in(n, tree, party), not apart, (tree, party))
        self.assertEqual(first_apart(n, tree, party), apart[0] if apart else None, (tree, party))

    def test_by_hand(self):
        tree = ("row", (2, ("any", (3, 0)), 1))
        for party, first in [
            ((0,), None), ((0, 3), None), ((0, 2, 3), None), ((0, 1, 3), None), ((0, 1, 2, 3), None),
            ((0, 1), (1, 3, 0, 2)), ((0, 2), (1, 0, 3, 2)), ((1, 2), (1, 0, 3, 2)), ((0, 1, 2), (1, 0, 3, 2)),
        ]:
            self.assertEqual(first_apart(4, tree, party), first, party)
            self.assertIs(holds_in(4, tree, party), first is None, party)
        self.assertIs(holds_in(1, 0, (0,)), True)
        self.assertIsNone(first_apart(1, 0, (0,)))

    def test_against_all_rows(self):
        for n in range(1, 6):
            for rows, tree in trees_by_rows(n).items():
                for party in all_parties(n):
                    self.assert_apart(n, tree, rows, party)

    def test_against_all_rows_of_trees_not_in_least_form(self):
        for n in range(1, 5):
            for least in least_trees(range(n)):
                for tree in arrangements(least):
                    for party in all_parties(n):
                        self.assert_apart(n, tree, read_rows(least), party)

    def test_against_all_rows_of_six_and_seven(self):
        picker = Picker(32)
        for n, tree in large_trees(31):
            rows = read_rows(tree)
            parties = all_parties(n)
            for party in parties if len(rows) < 100 else picker.mixed(parties)[:12]:
                self.assert_apart(n, tree, rows, party)


class RefusedTest(unittest.TestCase):
    def test_no_number_of_guests_goes_ahead_of_all_else(self):
        for n in NO_GUEST_NUMBERS:
            for thing in [0, (0,), ("any", (0, 1))] + ODD_THINGS:
                with self.subTest(n=n, thing=thing):
                    for ask in (tightened, holds_in, first_apart):
                        assert_refused(self, NoGuests, ask, n, 0, thing)
                        assert_refused(self, NoGuests, ask, n, thing, (0,))
                        assert_refused(self, NoGuests, ask, n, thing, thing)


class NothingChangesTest(unittest.TestCase):
    def test_what_is_handed_in_is_the_same_afterwards_and_answers_stay(self):
        for n, tree in [(1, 0), (3, ("any", (2, ("any", (1, 0)))))] + LARGE_TREES[:4]:
            before = copy.deepcopy(tree)
            for party in all_parties(n):
                for ask in (tightened, holds_in, first_apart):
                    self.assertEqual(ask(n, tree, party), ask(n, tree, party))
                    self.assertEqual(tree, before)


if __name__ == "__main__":
    unittest.main()
