import copy
import itertools
import unittest

from standtogether.errors import NoGuests, NoParties
from standtogether.whole import both, kept_parties, parties_by, tree_of
from support import (
    NO_GUEST_NUMBERS, NO_PARTIES_OF_FOUR, ODD_THINGS, Picker, all_parties, arrangements, assert_refused,
    in_least_form, large_trees, least_trees, read_rows, seatings_of, together, trees_by_rows,
)


class TreeOfTest(unittest.TestCase):
    def assert_tree(self, n, parties):
        left = seatings_of(n, parties)
        wanted = trees_by_rows(n)[left] if left else None
        self.assertEqual(tree_of(n, parties), wanted, (n, parties))

    def assert_large_tree(self, n, parties):
        left = seatings_of(n, parties)
        told = tree_of(n, parties)
        if not left:
            self.assertIsNone(told, parties)
        else:
            self.assertTrue(in_least_form(told), parties)
            self.assertEqual(read_rows(told), left, parties)

    def test_no_parties(self):
        self.assertEqual(tree_of(1, []), 0)
        for n in range(2, 8):
            self.assertEqual(tree_of(n, []), ("any", tuple(range(n))))

    def test_by_hand(self):
        for n, parties, wanted in [
            (1, [(0,)] * 8, 0),
            (2, [(0, 1)], ("any", (0, 1))),
            (3, [(0, 1), (1, 2)], ("row", (0, 1, 2))),
            (3, [(0, 1), (1, 2), (0, 2)], None),
            (4, [(0, 1), (0, 2), (0, 3)], None),
            (4, [(0, 1), (2, 3)], ("any", (("any", (0, 1)), ("any", (2, 3))))),
            (5, [(0, 1), (3, 4), (1, 2, 3)], ("row", (0, 1, 2, 3, 4))),
            (7, [(0, 1), (1, 2), (2, 3), (3, 4), (4, 5), (5, 6), (0, 6), (1, 5)], None),
            (7, [(5, 6), (4, 5), (3, 4), (2, 3), (1, 2), (0, 1), (0, 1, 2), (0, 1)], ("row", (0, 1, 2, 3, 4, 5, 6))),
            (7, [(0, 1, 2, 3), (3, 4, 5, 6), (0, 1)], ("row", (("any", (("any", (0, 1)), 2)), 3, ("any", (4, 5, 6))))),
            (7, [(0, 1)] * 8, ("any", (("any", (0, 1)), 2, 3, 4, 5, 6))),
        ]:
            self.assertEqual(tree_of(n, parties), wanted, (n, parties))

    def test_all_parties_of_up_to_four_guests(self):
        for n in range(1, 5):
            for many in range(4):
                for parties in itertools.product(all_parties(n), repeat=many):
                    self.assert_tree(n, list(parties))

    def test_many_parties_of_five_guests(self):
        for parties in itertools.product(all_parties(5), repeat=2):
            self.assert_tree(5, list(parties))
        picker = Picker(41)
        for number in range(2000):
            self.assert_tree(5, picker.parties(5, 3 + number % 6))

    def test_parties_that_leave_a_row_of_six_and_seven(self):
        picker = Picker(43)
        for number in range(40):
            n = 6 + number % 2
            order = picker.mixed(range(n))
            parties = []
            for _ in range(1 + number % 8):
                low = picker.number(n)
                parties.append(tuple(sorted(order[low:low + 1 + picker.number(n - low)])))
            self.assertIsNotNone(tree_of(n, parties), parties)
            self.assert_large_tree(n, parties)

    def test_mixed_parties_of_six_and_seven(self):
        picker = Picker(44)
        for number in range(120):
            n = 6 + number % 2
            parties = picker.parties(n, 2 + number % 7)
            self.assert_large_tree(n, parties)

    def test_another_order_has_the_same_tree(self):
        picker = Picker(45)
        for number in range(60):
            n = 3 + number % 5
            parties = picker.parties(n, 2 + number % 3)
            told = tree_of(n, parties)
            for order in itertools.permutations(parties):
                self.assertEqual(tree_of(n, list(order)), told, order)
            self.assertEqual(tree_of(n, parties + parties), told, parties)
        for number in range(60):
            parties = picker.parties(7, 8)
            self.assertEqual(tree_of(7, picker.mixed(parties)), tree_of(7, parties), parties)


class PartiesByTest(unittest.TestCase):
    def assert_binding(self, n, tree):
        told = parties_by(n, tree)
        self.assertIs(isinstance(told, list), True)
        self.assertLessEqual(len(told), 20, tree)
        for party in told:
            self.assertIn(party, all_parties(n), tree)
        self.assertEqual(seatings_of(n, told), read_rows(tree), (tree, told))

    def test_all_trees_of_up_to_five_guests(self):
        for n in range(1, 6):
            for tree in least_trees(range(n)):
                self.assert_binding(n, tree)

    def test_trees_that_are_not_in_least_form(self):
        for n in range(1, 5):
            for least in least_trees(range(n)):
                for tree in arrangements(least):
                    self.assert_binding(n, tree)

    def test_trees_of_six_and_seven(self):
        for n, tree in large_trees(42):
            self.assert_binding(n, tree)

    def test_a_change_of_the_told_list_changes_no_later_answer(self):
        for n, tree in large_trees(42)[:10] + [(1, 0)]:
            wanted = parties_by(n, tree)
            told = parties_by(n, tree)
            self.assertIsNot(told, wanted)
            told.append("changed")
            told[0] = None
            self.assertEqual(parties_by(n, tree), wanted)


class BothTest(unittest.TestCase):
    def test_by_hand(self):
        self.assertEqual(both(1, 0, 0), 0)
        self.assertEqual(both(3, ("row", (0, 1, 2)), ("row", (2, 1, 0))), ("row", (0, 1, 2)))
        self.assertIsNone(both(3, ("row", (0, 1, 2)), ("row", (0, 2, 1))))
        self.assertEqual(
            both(4, ("any", (("any", (1, 0)), 2, 3)), ("any", (("any", (1, 2)), 0, 3))),
            ("any", (("row", (0, 1, 2)), 3)))

    def test_all_pairs_of_up_to_four_guests(self):
        for n in range(1, 5):
            by_rows = trees_by_rows(n)
            for rows, one in by_rows.items():
                for others, other in by_rows.items():
                    shared = tuple(sorted(set(rows) & set(others)))
                    self.assertEqual(both(n, one, other), by_rows[shared] if shared else None, (one, other))

    def test_pairs_of_five_guests(self):
        by_rows = trees_by_rows(5)
        trees = list(by_rows.items())
        for rows, one in trees[::17]:
            for others, other in trees[::19]:
                shared = tuple(sorted(set(rows) & set(others)))
                self.assertEqual(both(5, one, other), by_rows[shared] if shared else None, (one, other))

    def test_pairs_of_six_and_seven(self):
        trees = large_trees(42)
        for (n, one), (m, other) in itertools.product(trees[::3], trees[::2]):
            if n == m:
                shared = tuple(sorted(set(read_rows(one)) & set(read_rows(other))))
                told = both(n, one, other)
                if not shared:
                    self.assertIsNone(told, (one, other))
                else:
                    self.assertTrue(in_least_form(told), (one, other))
                    self.assertEqual(read_rows(told), shared, (one, other))

    def test_trees_that_are_not_in_least_form(self):
        for n in range(1, 5):
            trees = least_trees(range(n))
            for one, other in itertools.product(trees[::5], trees[::3]):
                wanted = both(n, one, other)
                for left in arrangements(one)[-3:]:
                    for right in arrangements(other)[-3:]:
                        self.assertEqual(both(n, left, right), wanted, (left, right))

    def test_of_a_tree_and_itself_its_least_form(self):
        for n in range(1, 6):
            for least in least_trees(range(n)):
                for tree in arrangements(least)[-2:]:
                    self.assertEqual(both(n, tree, tree), least, tree)
        for n, tree in large_trees(42):
            told = both(n, tree, tree)
            self.assertTrue(in_least_form(told), tree)
            self.assertEqual(read_rows(told), read_rows(tree))


class KeptPartiesTest(unittest.TestCase):
    def assert_kept(self, n, tree, rows):
        wanted = [party for party in all_parties(n) if all(together(row, party) for row in rows)]
        self.assertEqual(kept_parties(n, tree), wanted, tree)

    def test_by_hand(self):
        self.assertEqual(kept_parties(1, 0), [(0,)])
        self.assertEqual(kept_parties(3, ("any", (0, 1, 2))), [(0,), (0, 1, 2), (1,), (2,)])
        self.assertEqual(kept_parties(3, ("row", (1, 0, 2))), [(0,), (0, 1), (0, 1, 2), (0, 2), (1,), (2,)])

    def test_all_trees_of_up_to_five_guests(self):
        for n in range(1, 6):
            for rows, tree in trees_by_rows(n).items():
                self.assert_kept(n, tree, rows)

    def test_trees_that_are_not_in_least_form(self):
        for n in range(1, 5):
            for least in least_trees(range(n)):
                for tree in arrangements(least):
                    self.assertEqual(kept_parties(n, tree), kept_parties(n, least), tree)

    def test_trees_of_six_and_seven(self):
        for n, tree in large_trees(42):
            self.assert_kept(n, tree, read_rows(tree))

    def test_a_change_of_the_told_list_changes_no_later_answer(self):
        for n, tree in large_trees(42)[:10] + [(1, 0)]:
            wanted = kept_parties(n, tree)
            told = kept_parties(n, tree)
            self.assertIsNot(told, wanted)
            told.reverse()
            told.append("changed")
            told[0] = None
            self.assertEqual(kept_parties(n, tree), wanted)
            self.assertEqual(kept_parties(n, ("any", tuple(range(n))) if n > 1 else 0)[-1], (n - 1,))


class RefusedTest(unittest.TestCase):
    def test_no_number_of_guests_goes_ahead_of_all_else(self):
        for n in NO_GUEST_NUMBERS:
            for thing in [0, [(0,)], [(0, 0)], ("any", (0, 1))] + ODD_THINGS + NO_PARTIES_OF_FOUR:
                with self.subTest(n=n, thing=thing):
                    for ask in (tree_of, parties_by, kept_parties):
                        assert_refused(self, NoGuests, ask, n, thing)
                    assert_refused(self, NoGuests, both, n, thing, 0)
                    assert_refused(self, NoGuests, both, n, 0, thing)

    def test_no_parties_are_refused(self):
        for thing in NO_PARTIES_OF_FOUR:
            before = copy.deepcopy(thing)
            with self.subTest(thing=thing):
                assert_refused(self, NoParties, tree_of, 4, thing)
                self.assertEqual(thing, before)
        for thing in ODD_THINGS:
            if thing != []:
                assert_refused(self, NoParties, tree_of, 7, thing)
        assert_refused(self, NoParties, tree_of, 1, [(1,)])
        assert_refused(self, NoParties, tree_of, 6, [(5, 6)])
        self.assertIsNotNone(tree_of(7, [(5, 6)]))


class NothingChangesTest(unittest.TestCase):
    def test_parties_are_the_same_afterwards_and_answers_stay(self):
        for n, parties in [(1, []), (4, [(0, 1), (2, 3), (0, 1)]), (4, [(0, 1), (0, 2), (0, 3)])]:
            before = copy.deepcopy(parties)
            self.assertEqual(tree_of(n, parties), tree_of(n, parties))
            self.assertEqual(parties, before)

    def test_nothing_hangs_on_what_is_done_to_the_parties_later(self):
        parties = [(0, 1)]
        told = tree_of(3, parties)
        parties.append((1, 2))
        self.assertEqual(told, ("any", (("any", (0, 1)), 2)))
        self.assertEqual(tree_of(3, parties), ("row", (0, 1, 2)))
        parties.pop()
        self.assertEqual(tree_of(3, parties), told)

    def test_trees_are_the_same_afterwards_and_answers_stay(self):
        for n, tree in large_trees(42)[:20]:
            before = copy.deepcopy(tree)
            for ask in (parties_by, kept_parties):
                self.assertEqual(ask(n, tree), ask(n, tree))
                self.assertEqual(tree, before)
            self.assertEqual(both(n, tree, tree), both(n, tree, tree))
            self.assertEqual(tree, before)


if __name__ == "__main__":
    unittest.main()
