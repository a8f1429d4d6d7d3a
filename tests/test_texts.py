import itertools
import unittest

from standtogether.errors import NoGuests, NoParties, NoText
from standtogether.texts import parties_text, read_parties, read_tree, tree_text
from support import (
    NO_GUEST_NUMBERS, NO_PARTIES_OF_FOUR, ODD_THINGS, Picker, all_parties, assert_answers_stay,
    assert_guests_and_parties_refused, assert_refused, large_trees, least_trees, nested,
)

# Signs that are figures, blanks or commas of other kinds; none of them stands in such a text.
OTHER_SIGNS = ["\u0661", "\uff11", "\u00b9", "\u00a0", "\u2003", "\uff0c", "\u0967", "\u2460"]
NO_TEXTS = [
    "", " ", "  ", "\n", "\t", ",", "any", "row", "None", "NONE", "none ", " none", "none none", "none 0", "0 none",
    "none,0", "nones", "non", "+0", "-0", "+1", "-1", "00", "01", "0x1", "1_0", "0_1", "1.0", "1e0", "0\n", "\n0",
    "0\t", "0 ", " 0", "0\r", "0\x00", "x", "0;1", "0.1", "{0 1}", "<0 1>", "'0'", "\"0\"",
    "0" * 500, "1" * 30, "9" * 500,
] + OTHER_SIGNS + ["0" + sign for sign in OTHER_SIGNS] + [sign + "0" for sign in OTHER_SIGNS]
NO_PARTIES_TEXTS = NO_TEXTS + [
    "0,", ",0", "0,,1", ",", "0, 1", "0 ,1", "0  1", "0,1 ", " 0,1", "0,1  2", "0,1\n2", "0,1\t2", "1,0", "0,0",
    "0,2,1", "0,1 1,0", "2,1 0", "4", "0,4", "0 4", "0,1,2,3,4", "10", "0,10", "0,01", "00,1", "0,+1", "0,-1",
    "-1,0", "0,1.",
    "(0,1)", "[0,1]", "(0 1)", "0,1;2", "0;1", " ".join(["0"] * 9), " ".join(["0,1"] * 9), "0,1 none", "none 0,1",
    "0,none", "0,1,", "0,1 ,2", "0,1 2,", "0-1", "0, ", "0,1\n", "1e0,2", "0" + "," * 499, " ".join(["0"] * 250),
    ",".join(["0"] * 250), "0,1 " + "9" * 30,
] + ["0," + sign for sign in OTHER_SIGNS] + ["0" + sign + "1" for sign in OTHER_SIGNS]
NO_TREE_TEXTS = NO_TEXTS + [
    "none", "0", "3", "(0 1 2 3", "0 1 2 3)", "0 1 2 3", "(0 1 2 3))", "((0 1 2 3)", "((0 1 2 3))", "([0 1 2 3])",
    "[(0 1 2 3)]", "(0 1 2 3]", "[0 1 2 3)", "(0 (1 2] 3)", "[0 (1 2 3)]", "[(0 1) (2 3)]", "(0 [1 2] 3)",
    "(0 (1) 2 3)", "((0) 1 2 3)", "(0 1 2)", "(0 1 2 2)", "(0 1 2 3 3)", "(0 1 2 4)", "(0 1 2 3 4)", "(0  1 2 3)",
    "( 0 1 2 3)",
    "(0 1 2 3 )", " (0 1 2 3)", "(0 1 2 3) ", "(0 1 2 3)\n", "\n(0 1 2 3)", "(0\n1 2 3)", "(0\t1 2 3)", "(0,1,2,3)",
    "(0, 1, 2, 3)", "(0 1 2 03)", "(00 1 2 3)", "(0 1 2 +3)", "(-0 1 2 3)", "(0 1 2 3.)", "(0123)", "(01 23)",
    "(0 12 3)", "(0 1(2 3))", "((0 1)2 3)", "((0 1)(2 3))", "()", "[]", "(())", "(0 1 2 3)()", "() (0 1 2 3)",
    "(0 1 2 3 ())", "(0 () 1 2 3)", "(0 1 2 3)(0 1 2 3)", "(0 1) (2 3)", "0 (1 2 3)", ")0 1 2 3(", ")(0 1 2 3)",
    "(0 1 2 3)]", "{0 1 2 3}", "any(0 1 2 3)", "(any 0 1 2 3)", "('any', (0, 1, 2, 3))", "(0 1 2 3", "(" * 500,
    "[" * 500, ")" * 500, "(" * 250 + ")" * 250, "(" * 240 + "0 1 2 3" + ")" * 240, "(0 " * 120 + "1" + ")" * 120,
    "[0 1 " * 80 + "2" + "]" * 80, "(0 1 2 3" + ")" * 400,
] + ["(0 1 2 " + sign + ")" for sign in OTHER_SIGNS] + ["(0" + sign + "1 2 3)" for sign in OTHER_SIGNS]
NO_TEXT_AT_ALL = [
    0, 1, [(0, 1)], [()], ("any", (0, 1, 2, 3)), ["(0 1 2 3)"], ("(0 1 2 3)",), ["none"], ("none",), {"none": "none"},
    nested("list", 5),
] + [thing for thing in ODD_THINGS if not isinstance(thing, str)]


def written_tree(tree):
    """Point 101 word by word."""
    if isinstance(tree, int):
        return "0123456"[tree]
    word, branches = tree
    first, last = ("(", ")") if word == "any" else ("[", "]")
    text = first
    for number, branch in enumerate(branches):
        text += (" " if number else "") + written_tree(branch)
    return text + last


class PartiesTextTest(unittest.TestCase):
    def test_by_hand(self):
        for n, parties, text in [
            (1, [], "none"), (7, [], "none"), (1, [(0,)], "0"), (1, [(0,)] * 8, "0 0 0 0 0 0 0 0"),
            (3, [(0, 2)], "0,2"),
            (4, [(0, 1), (3,), (1, 2, 3), (0, 1)], "0,1 3 1,2,3 0,1"), (7, [tuple(range(7)), (6,)], "0,1,2,3,4,5,6 6"),
        ]:
            self.assertEqual(parties_text(n, parties), text)
            told = read_parties(n, text)
            self.assertEqual(told, parties)
            self.assertIs(type(told), list)
            self.assertTrue(all(type(party) is tuple for party in told))

    def test_read_again_the_same(self):
        for n in range(1, 8):
            for party in all_parties(n):
                text = parties_text(n, [party])
                self.assertEqual(text, str(list(party))[1:-1].replace(" ", ""))
                self.assertEqual(read_parties(n, text), [party])
        picker = Picker(1011)
        for number in range(300):
            n = 1 + number % 7
            parties = picker.parties(n, number % 9)
            text = parties_text(n, parties)
            if parties:
                self.assertEqual(text, " ".join(parties_text(n, [party]) for party in parties))
            self.assertEqual(read_parties(n, text), parties)
            self.assertTrue(all(type(guest) is int for party in read_parties(n, text) for guest in party))

    def test_all_short_texts(self):
        wanted = {}
        for many in range(4):
            for parties in itertools.product(all_parties(2), repeat=many):
                wanted[" ".join(",".join(map(str, party)) for party in parties) or "none"] = list(parties)
        for many in range(6):
            for signs in itertools.product("012 ,", repeat=many):
                text = "".join(signs)
                if text in wanted:
                    self.assertEqual(read_parties(2, text), wanted[text])
                else:
                    assert_refused(self, NoText, read_parties, 2, text)

    def test_what_is_no_such_text(self):
        for text in NO_PARTIES_TEXTS:
            with self.subTest(text=text):
                assert_refused(self, NoText, read_parties, 4, text)
        assert_refused(self, NoText, read_parties, 1, "1")
        assert_refused(self, NoText, read_parties, 7, "7")
        assert_refused(self, NoText, read_parties, 2, "0,2")
        self.assertEqual(read_parties(4, " ".join(["0,1"] * 8)), [(0, 1)] * 8)

    def test_one_sign_more_less_or_other(self):
        good = "0,1 2 1,2,3"
        for text in changed_texts(good):
            try:
                told = read_parties(4, text)
            except NoText:
                continue
            self.assertEqual(parties_text(4, told), text)

    def test_other_things_than_texts(self):
        for thing in NO_TEXT_AT_ALL:
            assert_refused(self, NoText, read_parties, 4, thing)
            assert_refused(self, NoText, read_parties, 1, thing)


def changed_texts(good):
    signs = "0123456789 ,()[]+-\n" + OTHER_SIGNS[0]
    for place in range(len(good) + 1):
        yield good[:place] + good[place + 1:]
        for sign in signs:
            yield good[:place] + sign + good[place:]
            yield good[:place] + sign + good[place + 1:]


class TreeTextTest(unittest.TestCase):
    def test_by_hand(self):
        for n, tree, text in [
            (1, 0, "0"), (2, ("any", (1, 0)), "(1 0)"), (3, ("row", (0, 1, 2)), "[0 1 2]"),
            (4, ("row", (2, ("any", (3, 0)), 1)), "[2 (3 0) 1]"),
            (7, ("any", (("row", (0, 1, 2)), ("any", (("any", (3, 4)), 5)), 6)), "([0 1 2] ((3 4) 5) 6)"),
        ]:
            self.assertEqual(tree_text(n, tree), text)
            self.assertEqual(read_tree(n, text), tree)

    def assert_read_again(self, n, tree):
        text = tree_text(n, tree)
        self.assertIs(type(text), str)
        self.assertEqual(text, written_tree(tree))
        self.assertEqual(read_tree(n, text), tree)

    def test_all_trees_of_up_to_four_guests(self):
        for n in range(1, 5):
            for tree in least_trees(range(n)):
                self.assert_read_again(n, tree)

    def test_larger_trees_not_in_least_form(self):
        for n, tree in large_trees(1012):
            self.assert_read_again(n, tree)
        picker = Picker(1013)
        for number in range(200):
            n = 1 + number % 7
            self.assert_read_again(n, picker.tree(range(n)))

    def test_read_values_are_tuples_and_whole_numbers(self):
        def look(tree):
            if type(tree) is int:
                return
            self.assertIs(type(tree), tuple)
            self.assertIs(type(tree[0]), str)
            self.assertIs(type(tree[1]), tuple)
            for branch in tree[1]:
                look(branch)

        look(read_tree(7, "([0 1 2] ((3 4) 5) 6)"))
        look(read_tree(1, "0"))

    def test_all_short_texts(self):
        wanted = {"(0 1)": ("any", (0, 1)), "(1 0)": ("any", (1, 0))}
        for many in range(6):
            for signs in itertools.product("01 ()[]", repeat=many):
                text = "".join(signs)
                if text in wanted:
                    self.assertEqual(read_tree(2, text), wanted[text])
                else:
                    assert_refused(self, NoText, read_tree, 2, text)

    def test_what_is_no_such_text(self):
        for text in NO_TREE_TEXTS:
            with self.subTest(text=text):
                assert_refused(self, NoText, read_tree, 4, text)
        assert_refused(self, NoText, read_tree, 1, "(0)")
        assert_refused(self, NoText, read_tree, 1, "1")
        assert_refused(self, NoText, read_tree, 2, "[0 1]")
        self.assertEqual(read_tree(4, "(0 1 2 3)"), ("any", (0, 1, 2, 3)))

    def test_one_sign_more_less_or_other(self):
        for good in ("(0 [1 2 3])", "((0 1) (2 3))"):
            for text in changed_texts(good):
                try:
                    told = read_tree(4, text)
                except NoText:
                    continue
                self.assertEqual(written_tree(told), text)

    def test_other_things_than_texts(self):
        for thing in NO_TEXT_AT_ALL:
            assert_refused(self, NoText, read_tree, 4, thing)
            assert_refused(self, NoText, read_tree, 1, thing)


class RefusedTest(unittest.TestCase):
    def test_no_guests_and_then_no_parties(self):
        assert_guests_and_parties_refused(self, (parties_text,), ())
        self.assertIn([(0,)] * 9, NO_PARTIES_OF_FOUR)
        assert_refused(self, NoParties, parties_text, 1, [(1,)])

    def test_no_guests_go_ahead_of_no_text(self):
        for n in NO_GUEST_NUMBERS:
            for thing in ["none", "0", "(0 1)", "x", 0, ("any", (0, 1))] + ODD_THINGS:
                assert_refused(self, NoGuests, read_parties, n, thing)
                assert_refused(self, NoGuests, read_tree, n, thing)
                assert_refused(self, NoGuests, tree_text, n, ("any", (0, 1)))


class NothingChangesTest(unittest.TestCase):
    def test_what_is_handed_in_is_the_same_afterwards_and_answers_stay(self):
        picker = Picker(1014)
        for number in range(40):
            n = 1 + number % 7
            parties, tree = picker.parties(n, number % 9), picker.tree(range(n))
            assert_answers_stay(self, parties_text, n, parties)
            assert_answers_stay(self, tree_text, n, tree)
            assert_answers_stay(self, read_parties, n, parties_text(n, parties))
            assert_answers_stay(self, read_tree, n, tree_text(n, tree))


if __name__ == "__main__":
    unittest.main()
