import copy
import itertools
import unittest

from standtogether.errors import NoGuests, NoNumber
from standtogether.trees import has_row, is_tree, least_form, number_of, row_at, rows_many, rows_of
from support import (
    BIG, LARGE_TREES, NO_GUEST_NUMBERS, ODD_THINGS, all_seatings, arrangements, assert_refused, is_row_by_words,
    least_trees, nested,
)


def shared_deep(word, wide, depth):
    """The same part over and over: written out it would have far too many parts to look through."""
    thing = 0
    for _ in range(depth):
        thing = (word, (thing,) * wide)
    return thing


def chain(depth):
    thing = 0
    for _ in range(depth):
        thing = ("any", (thing, 1))
    return thing


class IsTreeTest(unittest.TestCase):
    def test_trees(self):
        for n, tree in [
            (1, 0), (2, ("any", (0, 1))), (2, ("any", (1, 0))), (3, ("any", (2, 0, 1))), (3, ("row", (1, 0, 2))),
            (3, ("any", (("any", (0, 1)), 2))), (4, ("row", (("any", (3, 0)), 1, 2))),
            (5, ("row", (("row", (0, 1, 2)), 3, 4))), (4, ("any", (("row", (0, 1, 2)), 3))),
        ] + LARGE_TREES:
            self.assertIs(is_tree(n, tree), True, tree)

    def test_all_trees_of_up_to_five_guests(self):
        for n in range(1, 6):
            for tree in least_trees(range(n)):
                for other in range(1, 8):
                    self.assertIs(is_tree(other, tree), other == n, (other, tree))

    def test_what_is_no_tree(self):
        for thing in [
            1, 2, -1, ("any", (0, 0, 1, 2)), ("any", (0, 1, ("any", (1, 2)))), ("any", (0, 1)), ("any", (0, 2)),
            ("any", (0, 1, 2, 3)), ("row", (0, 1, 3)), ("any", (-1, 0, 1, 2)), ("any", (0, 1, 1)),
            ("any", (("any", (0, 1, 2)),)), ("any", (("row", (0, 1, 2)),)), ("row", (("any", (0, 1, 2)),)),
            ("row", (0, ("any", (1, 2)))), ("row", (("row", (0, 1, 2)),)), ("any", (0, ("row", (1, 2)))),
            ("any", (0, ("any", (1,)), 2)), ("any", ()), ("row", ()), ("any", (0, 1, 2, ("any", ()))),
            ("all", (0, 1, 2)), ("Any", (0, 1, 2)), ("rows", (0, 1, 2)), ("", (0, 1, 2)), (None, (0, 1, 2)),
            (0, (0, 1, 2)), (("any",), (0, 1, 2)), (["any"], (0, 1, 2)), ({}, (0, 1, 2)), (True, (0, 1, 2)),
            ("any", [0, 1, 2]), ["any", (0, 1, 2)], ("row", [0, 1, 2]), ["row", (0, 1, 2)], ("any", {0: 1, 1: 2}),
            ("any", "012"), ("any", 0), ("any", None), ("any", (0, ("any", [1, 2]))), ("any", (0, ["any", (1, 2)])),
            ("any",), ("any", (0, 1, 2), ()), ("any", (0, 1, 2), 0), ("any", 0, 1, 2), ("any", (0,), (1,), (2,)),
            (0, 1, 2), ("any", (0, (1, 2))), ("any", (0, True, 2)), ("any", (False, 1, 2)), ("row", (0, True, 2)),
            ("any", (0, 1, None)), ("any", (0, 1, "2")), ("any", (0, 1, [2])), ("any", (0, 1, (2,))),
            ("any", (0, 1, {})), ("any", (0, 1, BIG)), ("any", (0, 1, -BIG)), "any", "row", "0",
            {"any": (0, 1, 2)}, ("any", (0, 1, nested("tuple", 18))), ("any", (0, 1, nested("list", 18))),
        ] + ODD_THINGS:
            self.assertIs(is_tree(3, thing), False, thing)

    def test_truths_are_no_guests_alone_either(self):
        self.assertIs(is_tree(1, False), False)
        self.assertIs(is_tree(1, True), False)
        self.assertIs(is_tree(2, ("any", (0, True))), False)
        self.assertIs(is_tree(2, ("any", (False, 1))), False)

    def test_deep_things(self):
        for n in (1, 3, 7):
            for thing in [
                shared_deep("any", 2, 10), shared_deep("any", 50, 10), shared_deep("row", 3, 10), chain(10),
                shared_deep("other", 50, 10), shared_deep("any", 1, 10), nested("tuple", 20), chain(5000),
            ]:
                self.assertIs(is_tree(n, thing), False)


class RowsTest(unittest.TestCase):
    def test_rows_by_hand(self):
        self.assertEqual(rows_of(1, 0), [(0,)])
        self.assertEqual(rows_of(2, ("any", (1, 0))), [(0, 1), (1, 0)])
        self.assertEqual(rows_of(3, ("row", (1, 0, 2))), [(1, 0, 2), (2, 0, 1)])
        self.assertEqual(rows_of(3, ("any", (("any", (0, 2)), 1))), [(0, 2, 1), (1, 0, 2), (1, 2, 0), (2, 0, 1)])
        self.assertEqual(
            rows_of(4, ("row", (("any", (0, 3)), 1, 2))), [(0, 3, 1, 2), (2, 1, 0, 3), (2, 1, 3, 0), (3, 0, 1, 2)])

    def test_rows_against_all_seatings(self):
        for n in range(1, 6):
            seatings = all_seatings(n)
            for tree in least_trees(range(n)):
                wanted = [seating for seating in seatings if is_row_by_words(tree, seating)]
                self.assertEqual(rows_of(n, tree), wanted, tree)
                self.assertEqual(rows_many(n, tree), len(wanted), tree)
                found = [seating for seating in seatings if has_row(n, tree, seating)]
                self.assertEqual(found, wanted, tree)

    def test_rows_of_trees_not_in_least_form(self):
        for n in range(1, 5):
            seatings = all_seatings(n)
            for least in least_trees(range(n)):
                for tree in arrangements(least):
                    wanted = [seating for seating in seatings if is_row_by_words(tree, seating)]
                    self.assertEqual(rows_of(n, tree), wanted, tree)
                    self.assertEqual(rows_many(n, tree), len(wanted), tree)
                    self.assertEqual([has_row(n, tree, seating) for seating in seatings],
                                     [seating in wanted for seating in seatings], tree)

    def test_rows_of_six_and_seven_guests(self):
        for (n, tree), many in zip(LARGE_TREES, [8, 24, 48, 2, 64, 5040]):
            rows = rows_of(n, tree)
            self.assertEqual(rows_many(n, tree), many)
            self.assertEqual(len(rows), many)
            self.assertEqual(rows, sorted(set(rows)))
            for row in rows[:: max(1, many // 50)]:
                self.assertTrue(is_row_by_words(tree, row), row)
                self.assertIs(has_row(n, tree, row), True)
            for seating in itertools.islice(itertools.permutations(range(n)), 0, None, 97):
                self.assertIs(has_row(n, tree, seating), seating in rows, (tree, seating))

    def test_a_branch_torn_apart_is_no_row(self):
        tree = ("row", (("any", (0, 1)), 2, ("any", (3, 4))))
        self.assertIs(has_row(5, tree, (1, 0, 2, 3, 4)), True)
        for seating in [(0, 2, 1, 3, 4), (2, 0, 1, 3, 4), (0, 1, 3, 2, 4), (0, 1, 3, 4, 2)]:
            self.assertIs(has_row(5, tree, seating), False, seating)

    def test_told_lists_are_the_askers_own(self):
        for n, tree in [(1, 0), (3, ("row", (0, 1, 2))), (3, ("any", (0, 1, 2)))]:
            wanted = rows_of(n, tree)
            told = rows_of(n, tree)
            self.assertIsNot(told, wanted)
            told.reverse()
            told.append("changed")
            told[0] = None
            self.assertEqual(rows_of(n, tree), wanted)
            self.assertEqual(rows_many(n, tree), len(wanted))
            self.assertEqual([row_at(n, tree, number) for number in range(len(wanted))], wanted)


class NumbersTest(unittest.TestCase):
    def test_rows_and_numbers_lead_back_to_one_another(self):
        for n in range(1, 5):
            for least in least_trees(range(n)):
                for tree in arrangements(least)[-2:]:
                    for number, row in enumerate(rows_of(n, tree)):
                        self.assertEqual(row_at(n, tree, number), row)
                        self.assertEqual(number_of(n, tree, row), number)

    def test_rows_and_numbers_of_large_trees(self):
        for n, tree in LARGE_TREES:
            rows = rows_of(n, tree)
            for number in {0, 1, len(rows) // 2, len(rows) - 1}:
                self.assertEqual(row_at(n, tree, number), rows[number])
                self.assertEqual(number_of(n, tree, rows[number]), number)

    def test_what_is_no_number_is_refused(self):
        for n, tree in [(1, 0), (2, ("any", (0, 1))), (3, ("row", (0, 1, 2))), (4, ("any", (0, 1, 2, 3)))]:
            many = rows_many(n, tree)
            for number in [-1, -many, many, many + 1, BIG, -BIG, "1", [0], (0,), {0: 0}] + ODD_THINGS:
                with self.subTest(tree=tree, number=number):
                    assert_refused(self, NoNumber, row_at, n, tree, number)

    def test_a_seating_that_is_no_row_is_refused(self):
        for n in range(1, 5):
            for tree in least_trees(range(n)):
                for seating in all_seatings(n):
                    if not is_row_by_words(tree, seating):
                        assert_refused(self, NoNumber, number_of, n, tree, seating)

    def test_what_is_no_seating_is_no_row(self):
        tree = ("any", (0, 1, 2))
        for thing in [(0, 1), (0, 1, 1), (0, 1, 3), (0, True, 2), [0, 1, 2], (0, 1, 2, 3)] + ODD_THINGS:
            assert_refused(self, NoNumber, number_of, 3, tree, thing)
            self.assertIs(has_row(3, tree, thing), False)


class LeastFormTest(unittest.TestCase):
    def test_least_forms_by_hand(self):
        self.assertEqual(least_form(1, 0), 0)
        self.assertEqual(least_form(2, ("any", (1, 0))), ("any", (0, 1)))
        self.assertEqual(least_form(3, ("row", (2, 0, 1))), ("row", (1, 0, 2)))
        self.assertEqual(
            least_form(5, ("row", (("any", (4, 2)), 0, ("any", (3, 1))))),
            ("row", (("any", (1, 3)), 0, ("any", (2, 4)))))
        self.assertEqual(
            least_form(6, ("any", (5, ("row", (4, 0, 3)), ("any", (2, 1))))),
            ("any", (("row", (3, 0, 4)), ("any", (1, 2)), 5)))
        self.assertEqual(
            least_form(7, ("row", (("row", (6, 0, 5)), 4, ("any", (3, ("any", (2, 1))))))),
            ("row", (("row", (5, 0, 6)), 4, ("any", (("any", (1, 2)), 3)))))

    def test_what_is_in_least_form_stays(self):
        for n in range(1, 6):
            for tree in least_trees(range(n)):
                self.assertEqual(least_form(n, tree), tree)

    def test_exchanged_and_turned_trees_have_one_least_form(self):
        for n in range(1, 5):
            for least in least_trees(range(n)):
                for tree in arrangements(least):
                    self.assertEqual(least_form(n, tree), least, tree)
        for least in least_trees(range(5)):
            for tree in arrangements(least)[::7]:
                self.assertEqual(least_form(5, tree), least, tree)

    def test_least_forms_of_six_and_seven_keep_the_rows(self):
        for n, tree in LARGE_TREES:
            least = least_form(n, tree)
            self.assertIs(is_tree(n, least), True)
            self.assertEqual(rows_of(n, least), rows_of(n, tree))
            self.assertEqual(least_form(n, least), least)

    def test_trees_with_other_rows_have_another_least_form(self):
        for n in range(1, 6):
            by_rows = {}
            for tree in least_trees(range(n)):
                rows = tuple(rows_of(n, tree))
                self.assertNotIn(rows, by_rows)
                by_rows[rows] = least_form(n, tree)
            self.assertEqual(len(set(by_rows.values())), len(by_rows))


class RefusedGuestsTest(unittest.TestCase):
    def test_no_number_of_guests_goes_ahead_of_all_else(self):
        for n in NO_GUEST_NUMBERS:
            for thing in [0, ("any", (0, 1)), shared_deep("any", 2, 10)] + ODD_THINGS:
                with self.subTest(n=n, thing=thing):
                    for ask in (is_tree, rows_many, rows_of, least_form):
                        assert_refused(self, NoGuests, ask, n, thing)
                    for ask in (has_row, row_at, number_of):
                        assert_refused(self, NoGuests, ask, n, 0, thing)
                        assert_refused(self, NoGuests, ask, n, thing, None)


class NothingChangesTest(unittest.TestCase):
    def test_what_is_handed_in_is_the_same_afterwards_and_answers_stay(self):
        for n, tree in LARGE_TREES[:4] + [(1, 0), (3, ("any", (2, ("any", (1, 0)))))]:
            before = copy.deepcopy(tree)
            row = rows_of(n, tree)[0]
            for ask in (is_tree, rows_many, rows_of, least_form):
                self.assertEqual(ask(n, tree), ask(n, tree))
                self.assertEqual(tree, before)
            for ask, part in ((has_row, row), (number_of, row), (row_at, 0)):
                self.assertEqual(ask(n, tree, part), ask(n, tree, part))
                self.assertEqual(tree, before)

    def test_things_that_are_no_trees_stay_as_they_are(self):
        for thing in ODD_THINGS + [("any", [0, 1]), ["any", (0, 1)]]:
            before = copy.deepcopy(thing)
            self.assertIs(is_tree(2, thing), is_tree(2, thing))
            assert_refused(self, NoNumber, row_at, 2, ("any", (0, 1)), thing)
            self.assertEqual(thing, before)


if __name__ == "__main__":
    unittest.main()
