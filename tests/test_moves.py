import itertools
import unittest

from standtogether.bars import is_bar, least_bar
from standtogether.errors import NoGuests, NoNumber, NoOrder, NoParties
from standtogether.leaving import least_guest_choices
from standtogether.moves import left_out, parties_named, put_in, seating_named, tree_named, tree_put_in
from standtogether.parties import is_parties
from standtogether.trees import is_tree, least_form, rows_of
from standtogether.whole import tree_of
from support import (
    BIG, NO_GUEST_NUMBERS, NO_PARTIES_OF_FOUR, ODD_THINGS, STAR, TRIANGLE, Picker, all_parties, all_seatings,
    assert_answers_stay, assert_refused, guests, in_least_form, is_bar_by_words, large_parties, large_trees,
    least_trees, nested, read_rows, together, trees_by_rows,
)

NO_ORDERS_OF_FOUR = [
    (0, 1, 2), (0, 1, 2, 3, 4), (0, 1, 2, 2), (0, 0, 1, 2), (0, 1, 2, 4), (-1, 0, 1, 2), (1, 2, 3, 4), (0, 1, 2, BIG),
    [0, 1, 2, 3], {0: 0, 1: 1, 2: 2, 3: 3}, "0123", (False, 1, 2, 3), (0, True, 2, 3), (0, 1, 2, None), (0, 1, 2, "3"),
    (0, 1, 2, (3,)), ((0, 1, 2, 3),), (0, 1, 2, []), (0, 1, 2, {}), (nested("tuple", 19), 1, 2, 3),
    (0, 1, 2, nested("list", 19)),
] + ODD_THINGS
NO_GUESTS_OF_FOUR = [4, 5, 7, 8, -1, -4, BIG, -BIG] + ODD_THINGS
NOT_LEFT_OUT_OF_FOUR = [
    (0, 1, 2, 3), (1, 0), (0, 2, 1), (0, 0), (1, 1, 2), (4,), (0, 4), (-1,), (-1, 0), (0, BIG), (True,), (False,),
    (0, True), (False, 1), [], [0], [0, 1], {0: True}, "0", 0, 1, (None,), ("0",), ((0,),), (0, None), (0, [1]),
    (0, {}), (nested("tuple", 19),), (0, nested("list", 19)),
] + [odd for odd in ODD_THINGS if odd != ()]


def back_order(order):
    """The order that leads back."""
    return tuple(order.index(guest) for guest in range(len(order)))


def named_by_words(guests, order):
    return tuple(order[guest] for guest in guests)


def some_orders(picker, n, many):
    return [tuple(picker.mixed(range(n))) for _ in range(many)]


def named_bar(bar, order):
    """The bar with its guests named anew, its three guests in their order, its ways to fit."""
    a, b, c, ways = bar
    found = {}
    for way in ways:
        anew = tuple(part if place % 2 else order[part] for place, part in enumerate(way))
        found[anew[0], anew[-1]] = anew
        found[anew[-1], anew[0]] = anew[::-1]
    low, middle, high = sorted(order[guest] for guest in (a, b, c))
    return (low, middle, high, (found[low, middle], found[low, high], found[middle, high]))


def put_in_by_words(row, guest, m, benches):
    """The row with the bench's row in the guest's stead, all numbered anew."""
    bench = [guest + one for one in benches]
    anew = []
    for one in row:
        anew.extend(bench if one == guest else [one] if one < guest else [one + m - 1])
    return tuple(anew)


def rows_put_in(tree, guest, m, other):
    return tuple(sorted({
        put_in_by_words(row, guest, m, bench) for row in read_rows(tree) for bench in read_rows(other)}))


def rows_left(n, tree, guests):
    others = [guest for guest in range(n) if guest not in guests]
    return sorted({tuple(others.index(one) for one in row if one not in guests) for row in read_rows(tree)})


class NamedTest(unittest.TestCase):
    def test_by_hand(self):
        self.assertEqual(parties_named(1, [], (0,)), [])
        self.assertEqual(parties_named(1, [(0,)] * 8, (0,)), [(0,)] * 8)
        self.assertEqual(parties_named(4, [(0, 1), (1, 2, 3), (0,)], (2, 0, 3, 1)), [(0, 2), (0, 1, 3), (2,)])
        self.assertEqual(seating_named(4, (3, 0, 1, 2), (2, 0, 3, 1)), (1, 2, 0, 3))
        self.assertEqual(seating_named(1, (0,), (0,)), (0,))
        self.assertEqual(tree_named(1, 0, (0,)), 0)
        self.assertEqual(
            tree_named(4, ("row", (2, ("any", (3, 0)), 1)), (2, 0, 3, 1)), ("row", (0, ("any", (1, 2)), 3)))

    def test_parties(self):
        picker = Picker(911)
        for number in range(300):
            n = 1 + number % 7
            parties = picker.parties(n, number % 9)
            for order in some_orders(picker, n, 3):
                told = parties_named(n, parties, order)
                self.assertIs(type(told), list)
                wanted = [tuple(sorted(named_by_words(party, order))) for party in parties]
                self.assertEqual(told, wanted, (parties, order))
                self.assertIs(is_parties(n, told), True)
                self.assertEqual(parties_named(n, told, back_order(order)), parties)
                self.assertEqual(parties_named(n, parties, tuple(range(n))), parties)

    def test_seatings(self):
        for n in range(1, 5):
            for seating, order in itertools.product(all_seatings(n), repeat=2):
                told = seating_named(n, seating, order)
                self.assertIs(type(told), tuple)
                self.assertEqual(told, named_by_words(seating, order))
                self.assertEqual(seating_named(n, told, back_order(order)), seating)
        picker = Picker(912)
        for number in range(300):
            n = 5 + number % 3
            seating, order = some_orders(picker, n, 2)
            self.assertEqual(seating_named(n, seating, order), named_by_words(seating, order))

    def assert_tree_named(self, n, tree, order):
        told = tree_named(n, tree, order)
        self.assertIs(is_tree(n, told), True)
        self.assertTrue(in_least_form(told), (tree, order))
        self.assertEqual(read_rows(told), tuple(sorted(named_by_words(row, order) for row in read_rows(tree))))
        self.assertEqual(tree_named(n, told, back_order(order)), least_form(n, tree), (tree, order))

    def test_all_trees_of_up_to_four_guests(self):
        for n in range(1, 5):
            for tree in least_trees(range(n)):
                for order in all_seatings(n):
                    self.assert_tree_named(n, tree, order)

    def test_trees_of_five_to_seven_guests(self):
        picker = Picker(913)
        for n, tree in [(5, picker.tree(range(5))) for _ in range(60)] + large_trees(914)[6::2]:
            for order in some_orders(picker, n, 2):
                self.assert_tree_named(n, tree, order)

    def test_the_tree_of_parties_goes_along(self):
        picker = Picker(915)
        for number in range(200):
            n = 2 + number % 6
            parties = picker.parties(n, 1 + number % 4)
            order = tuple(picker.mixed(range(n)))
            tree = tree_of(n, parties)
            wanted = None if tree is None else tree_named(n, tree, order)
            self.assertEqual(tree_of(n, parties_named(n, parties, order)), wanted, (parties, order))

    def test_what_is_no_order_is_refused(self):
        tree = ("any", (0, 1, 2, 3))
        for thing in NO_ORDERS_OF_FOUR:
            with self.subTest(thing=thing):
                assert_refused(self, NoOrder, parties_named, 4, [(0, 1)], thing)
                assert_refused(self, NoOrder, parties_named, 4, [], thing)
                assert_refused(self, NoOrder, seating_named, 4, (0, 1, 2, 3), thing)
                assert_refused(self, NoOrder, tree_named, 4, tree, thing)
        assert_refused(self, NoOrder, tree_named, 1, 0, (1,))
        assert_refused(self, NoOrder, seating_named, 1, (0,), (False,))

    def test_no_guests_then_no_parties_then_no_order(self):
        for n in NO_GUEST_NUMBERS:
            for thing in [(0, 1, 2, 3), [(0, 1)], 0] + NO_ORDERS_OF_FOUR + NO_PARTIES_OF_FOUR:
                assert_refused(self, NoGuests, parties_named, n, thing, (0, 1, 2, 3))
                assert_refused(self, NoGuests, parties_named, n, [], thing)
                assert_refused(self, NoGuests, seating_named, n, (0, 1, 2, 3), thing)
                assert_refused(self, NoGuests, tree_named, n, ("any", (0, 1)), thing)
        for thing in NO_PARTIES_OF_FOUR:
            for order in [(0, 1, 2, 3)] + NO_ORDERS_OF_FOUR:
                assert_refused(self, NoParties, parties_named, 4, thing, order)


class PutInTest(unittest.TestCase):
    def test_by_hand(self):
        parties = [(0, 1), (1, 2), (0, 2), (1,)]
        others = [(0, 1), (1, 2)]
        for guest, wanted in [
            (0, [(0, 1, 2, 3), (3, 4), (0, 1, 2, 4), (3,), (0, 1, 2), (0, 1), (1, 2)]),
            (1, [(0, 1, 2, 3), (1, 2, 3, 4), (0, 4), (1, 2, 3), (1, 2, 3), (1, 2), (2, 3)]),
            (2, [(0, 1), (1, 2, 3, 4), (0, 2, 3, 4), (1,), (2, 3, 4), (2, 3), (3, 4)]),
        ]:
            self.assertEqual(put_in(3, parties, guest, 3, others), wanted)
        self.assertEqual(put_in(1, [], 0, 1, []), [(0,)])
        self.assertEqual(put_in(1, [(0,)], 0, 2, [(1,)]), [(0, 1), (0, 1), (1,)])
        self.assertEqual(put_in(3, [(0, 2)], 1, 1, [(0,)]), [(0, 2), (1,), (1,)])
        self.assertEqual(put_in(3, [(0, 2), (0, 1)], 2, 1, []), [(0, 2), (0, 1), (2,)])

    def assert_put_in(self, n, parties, guest, m, others):
        told = put_in(n, parties, guest, m, others)
        bench = tuple(range(guest, guest + m))
        self.assertIs(type(told), list)
        self.assertIs(is_parties(n - 1 + m, told), True, told)
        outer = []
        for party in parties:
            anew = set()
            for one in party:
                anew |= set(bench) if one == guest else {one if one < guest else one + m - 1}
            outer.append(tuple(sorted(anew)))
        inner = [tuple(guest + one for one in party) for party in others]
        self.assertEqual(told, outer + [bench] + inner)
        tree, other = tree_of(n, parties), tree_of(m, others)
        if tree is not None and other is not None:
            self.assertEqual(tree_of(n - 1 + m, told), tree_put_in(n, tree, guest, m, other))
        else:
            self.assertIsNone(tree_of(n - 1 + m, told))
        return tree is not None and other is not None

    def test_parties(self):
        picker = Picker(921)
        kinds = {True: 0, False: 0}
        for number in range(1500):
            n = 1 + number % 7
            m = 1 + picker.number(8 - n)
            many = picker.number(8)
            parties, others = picker.parties(n, many), picker.parties(m, picker.number(8 - many))
            kinds[self.assert_put_in(n, parties, picker.number(n), m, others)] += 1
        self.assertGreater(min(kinds.values()), 100)

    def test_just_seven_guests_and_one_more(self):
        for n in range(1, 8):
            for guest in {0, n // 2, n - 1}:
                self.assert_put_in(n, [(guest,)], guest, 8 - n, [])
                tree, other = tree_of(n, []), tree_of(8 - n, [])
                self.assertIs(is_tree(7, tree_put_in(n, tree, guest, 8 - n, other)), True)
                for m in range(9 - n, 8):
                    assert_refused(self, NoGuests, put_in, n, [], guest, m, [])
                    assert_refused(self, NoGuests, tree_put_in, n, tree, guest, m, tree_of(m, []))

    def test_just_eight_parties_and_one_more(self):
        for many in range(9):
            for more in range(9):
                parties, others = [(0, 2), (1,)] * 4, [(0, 1), (1,)] * 4
                if many + 1 + more <= 8:
                    told = put_in(3, parties[:many], 1, 2, others[:more])
                    self.assertEqual(len(told), many + 1 + more)
                else:
                    assert_refused(self, NoParties, put_in, 3, parties[:many], 1, 2, others[:more])
        # More than seven guests goes ahead of more than eight parties.
        assert_refused(self, NoGuests, put_in, 4, [(0,)] * 8, 0, 5, [])
        assert_refused(self, NoGuests, put_in, 7, [], 6, 2, [(0,)] * 8)

    def test_what_is_no_guest_is_refused(self):
        tree = ("any", (0, 1, 2, 3))
        for guest in NO_GUESTS_OF_FOUR:
            with self.subTest(guest=guest):
                assert_refused(self, NoNumber, put_in, 4, [(0, 1)], guest, 2, [(0,)])
                assert_refused(self, NoNumber, tree_put_in, 4, tree, guest, 2, ("any", (0, 1)))
                # Ahead of too many guests and too many parties.
                assert_refused(self, NoNumber, put_in, 4, [(0, 1)] * 8, guest, 7, [(0,)] * 8)
                assert_refused(self, NoNumber, tree_put_in, 4, tree, guest, 7, tree_of(7, []))
        assert_refused(self, NoNumber, put_in, 1, [], 1, 1, [])
        assert_refused(self, NoNumber, tree_put_in, 1, 0, 1, 1, 0)

    def test_no_guests_goes_ahead_of_all_else(self):
        for wrong in NO_GUEST_NUMBERS:
            for thing in [0, [], [(0, 1)], (0, 1)] + ODD_THINGS + NO_PARTIES_OF_FOUR:
                assert_refused(self, NoGuests, put_in, wrong, thing, 0, 2, [])
                assert_refused(self, NoGuests, put_in, wrong, [], thing, 2, [])
                assert_refused(self, NoGuests, put_in, wrong, [], 0, thing, [])
                assert_refused(self, NoGuests, put_in, wrong, [], 0, 2, thing)
                assert_refused(self, NoGuests, put_in, 4, thing, 0, wrong, [])
                assert_refused(self, NoGuests, put_in, 4, [], thing, wrong, [])
                assert_refused(self, NoGuests, put_in, 4, [], 0, wrong, thing)
                assert_refused(self, NoGuests, tree_put_in, wrong, 0, thing, 2, ("any", (0, 1)))
                assert_refused(self, NoGuests, tree_put_in, wrong, 0, 0, thing, ("any", (0, 1)))
                assert_refused(self, NoGuests, tree_put_in, 1, 0, thing, wrong, 0)

    def test_no_parties_are_refused(self):
        for thing in NO_PARTIES_OF_FOUR:
            for guest in [0, 3] + NO_GUESTS_OF_FOUR:
                for m in (1, 4, 7):
                    assert_refused(self, NoParties, put_in, 4, thing, guest, m, [])
                    assert_refused(self, NoParties, put_in, m, [], guest, 4, thing)
        # A party of the one is none of the other where it has too many guests.
        assert_refused(self, NoParties, put_in, 2, [(0, 2)], 0, 3, [])
        assert_refused(self, NoParties, put_in, 3, [], 0, 2, [(0, 2)])
        self.assertEqual(put_in(3, [(0, 2)], 0, 2, []), [(0, 1, 3), (0, 1)])


class TreePutInTest(unittest.TestCase):
    def assert_tree(self, n, tree, guest, m, other):
        told = tree_put_in(n, tree, guest, m, other)
        self.assertIs(is_tree(n - 1 + m, told), True, told)
        self.assertTrue(in_least_form(told), told)
        self.assertEqual(read_rows(told), rows_put_in(tree, guest, m, other), (tree, guest, other))

    def test_by_hand(self):
        self.assertEqual(tree_put_in(1, 0, 0, 1, 0), 0)
        self.assertEqual(tree_put_in(1, 0, 0, 3, ("row", (2, 1, 0))), ("row", (0, 1, 2)))
        self.assertEqual(tree_put_in(3, ("row", (2, 1, 0)), 1, 1, 0), ("row", (0, 1, 2)))
        self.assertEqual(
            tree_put_in(3, ("row", (2, 1, 0)), 1, 2, ("any", (1, 0))), ("row", (0, ("any", (1, 2)), 3)))
        self.assertEqual(
            tree_put_in(2, ("any", (1, 0)), 1, 2, ("any", (0, 1))), ("any", (0, ("any", (1, 2)))))
        self.assertEqual(
            tree_put_in(2, ("any", (0, 1)), 0, 3, ("row", (0, 2, 1))), ("any", (("row", (0, 2, 1)), 3)))

    def test_all_small_trees(self):
        for n in range(1, 5):
            for m in range(1, 5 - n // 3):
                for tree in least_trees(range(n)):
                    for other in least_trees(range(m))[::1 if n + m < 7 else 7]:
                        for guest in range(n):
                            self.assert_tree(n, tree, guest, m, other)

    def test_trees_of_six_and_seven(self):
        picker = Picker(922)
        for number in range(80):
            n = 2 + number % 5
            m = 7 - n + number % 2
            self.assert_tree(n, picker.tree(range(n)), picker.number(n), m, picker.tree(range(m)))


class LeftOutTest(unittest.TestCase):
    def assert_left(self, n, tree, guests):
        told = left_out(n, tree, guests)
        left = n - len(guests)
        self.assertIs(is_tree(left, told), True, (tree, guests))
        self.assertTrue(in_least_form(told), (tree, guests, told))
        self.assertEqual(rows_of(left, told), rows_left(n, tree, guests), (tree, guests, told))

    def test_by_hand(self):
        tree = ("row", (3, ("any", (4, 0)), 1, 2))
        for guests, wanted in [
            ((), ("row", (2, 1, ("any", (0, 4)), 3))),
            ((0,), ("row", (1, 0, 3, 2))),
            ((1,), ("row", (1, ("any", (0, 3)), 2))),
            ((1, 2), ("any", (("any", (0, 2)), 1))),
            ((0, 1, 2), ("any", (0, 1))),
            ((0, 1, 2, 3), 0),
            ((1, 2, 3), ("any", (0, 1))),
        ]:
            self.assertEqual(left_out(5, tree, guests), wanted, guests)
        self.assertEqual(left_out(1, 0, ()), 0)

    def test_all_trees_of_up_to_four_guests(self):
        for n in range(1, 5):
            for tree in least_trees(range(n)):
                for many in range(n):
                    for guests in itertools.combinations(range(n), many):
                        self.assert_left(n, tree, guests)

    def test_all_guests_left_out_of_trees_of_five_to_seven(self):
        picker = Picker(931)
        for n, tree in [(5, picker.tree(range(5))) for _ in range(40)] + large_trees(932)[:5] + large_trees(932)[6::3]:
            for many in range(n):
                choices = list(itertools.combinations(range(n), many))
                for guests in choices if n == 5 else [picker.one(choices)]:
                    self.assert_left(n, tree, guests)

    def test_what_is_no_guests_to_be_left_out_is_refused(self):
        tree = ("row", (0, 1, 2, 3))
        for thing in NOT_LEFT_OUT_OF_FOUR:
            with self.subTest(thing=thing):
                assert_refused(self, NoNumber, left_out, 4, tree, thing)
        assert_refused(self, NoNumber, left_out, 1, 0, (0,))
        for n in NO_GUEST_NUMBERS:
            for thing in [(), (0,)] + NOT_LEFT_OUT_OF_FOUR:
                assert_refused(self, NoGuests, left_out, n, tree, thing)


class RowsAndBarsTest(unittest.TestCase):
    """Point 94."""

    def test_with_each_row_the_one_from_behind(self):
        picker = Picker(941)
        for n, tree in [(n, tree) for n in range(1, 5) for tree in least_trees(range(n))] + large_trees(942)[6:]:
            order = tuple(picker.mixed(range(n)))
            told = [tree_named(n, tree, order)]
            if n > 1:
                told.append(left_out(n, tree, (picker.number(n),)))
            if n < 7:
                told.append(tree_put_in(n, tree, picker.number(n), 2, ("any", (0, 1))))
            for one in told:
                rows = set(read_rows(one))
                self.assertEqual({row[::-1] for row in rows}, rows)

    def test_bars_named_anew_are_bars(self):
        picker = Picker(943)
        seen = 0
        for number in range(400):
            n = 3 + number % 5
            parties = picker.parties(n, 8 - number % 4)
            bar = least_bar(n, parties)
            if bar is None:
                continue
            order = tuple(picker.mixed(range(n)))
            anew, named = parties_named(n, parties, order), named_bar(bar, order)
            self.assertTrue(is_bar_by_words(n, anew, named), (parties, bar, order))
            self.assertIs(is_bar(n, anew, named), True)
            seen += 1
        self.assertGreater(seen, 100)

    def test_a_choice_of_guests_left_out_leaves_a_row(self):
        for n, parties in [(3, TRIANGLE), (4, STAR)] + large_parties(944, 25):
            for choice in least_guest_choices(n, parties)[:4]:
                others = [guest for guest in range(n) if guest not in choice]
                shares = [tuple(others.index(guest) for guest in party if guest in others) for party in parties]
                shares = [share for share in shares if share]
                tree = tree_of(len(others), shares)
                self.assertIsNotNone(tree, (parties, choice))
                self.assertTrue(all(together(rows_of(len(others), tree)[0], share) for share in shares))

    def test_guests_left_out_leave_what_the_parties_keep(self):
        # What is left of a tree keeps what is left of its parties.
        for n in range(2, 5):
            for rows, tree in trees_by_rows(n).items():
                kept = [party for party in all_parties(n) if all(together(row, party) for row in rows)]
                for guest in range(n):
                    told = left_out(n, tree, (guest,))
                    for party in kept:
                        share = tuple(one - (one > guest) for one in party if one != guest)
                        if share:
                            self.assertTrue(all(together(row, share) for row in read_rows(told)))


class NothingChangesTest(unittest.TestCase):
    def test_what_is_handed_in_is_the_same_afterwards_and_answers_stay(self):
        picker = Picker(951)
        for number in range(40):
            n = 1 + number % 7
            order, seating = some_orders(picker, n, 2)
            parties, tree = picker.parties(n, number % 5), picker.tree(range(n))
            assert_answers_stay(self, parties_named, n, parties, order)
            assert_answers_stay(self, seating_named, n, seating, order)
            assert_answers_stay(self, tree_named, n, tree, order)
            m = 1 + picker.number(8 - n)
            assert_answers_stay(self, put_in, n, parties, picker.number(n), m, picker.parties(m, 3))
            assert_answers_stay(self, tree_put_in, n, tree, picker.number(n), m, picker.tree(range(m)))
            assert_answers_stay(self, left_out, n, tree, tuple(range(n // 2)))

    def test_told_lists_are_no_list_that_was_handed_in(self):
        parties, others = [(0,), (0, 1)], [(0,)]
        self.assertIsNot(parties_named(2, parties, (0, 1)), parties)
        told = put_in(2, parties, 0, 1, others)
        told.clear()
        self.assertEqual((parties, others), ([(0,), (0, 1)], [(0,)]))
        empty = []
        self.assertIsNot(parties_named(2, empty, (0, 1)), empty)


if __name__ == "__main__":
    unittest.main()
