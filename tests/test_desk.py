import copy
import unittest

from standtogether.bars import least_bar
from standtogether.desk import Desk
from standtogether.errors import NoDeed, NoLine, NoNumber, NoParties
from standtogether.texts import parties_text, tree_text
from standtogether.trees import rows_many, rows_of
from standtogether.whole import tree_of
from support import BIG, ODD_THINGS, Picker, assert_refused, seatings_of

QUESTIONS = ("parties", "tree", "many", "first", "bar")
NO_LINES = [
    # Words lacking or more.
    "", "guests", "party", "drop", "back 1", "back back", "parties 0", "tree 0", "many 1", "first 0", "bar 0",
    "guests 1 2", "party 0 1", "party 0,1 2", "drop 0 1", "tree tree", "guests 3 party 0", "ok", "none", "help",
    "guest 3",
    "partys 0", "Guests 3", "GUESTS 3", "Back", "TREE", "drops 0", "undo", "0", "3",
    # Blanks and line feeds.
    " ", " guests 3", "guests 3 ", "guests  3", " tree", "tree ", "  back", "back ", "party  0", "party 0 ", " party 0",
    "drop  0", "drop 0 ", "guests\t3", "guests\n3", "tree\n", "\ntree", "back\n", "guests 3\n", "party 0\n", "drop 0\n",
    "parties\r", "many\t", "first\x00", "bar\u00a0", "guests\u00a03", "party\u20030",
    # Numbers that are written otherwise, and numbers of guests that there are not.
    "guests 0", "guests 8", "guests 9", "guests 10", "guests 03", "guests 00", "guests +3", "guests -1", "guests 3.0",
    "guests 1e0", "guests 0x3", "guests 1_0", "guests three", "guests ,", "guests 3,", "guests \u0663", "guests \uff13",
    "guests \u00b3", "guests " + "9" * 30, "guests -0", "guests 1,2", "guests (3)", "drop 00", "drop 01", "drop -1",
    "drop -0", "drop +0", "drop 0,", "drop 0,1", "drop x", "drop 0.0", "drop \u0660", "drop \uff10", "drop 1_0",
    # Parties that are written otherwise.
    "party 1,0", "party 0,0", "party 0,2,1", "party 0,1,1", "party 10,9", "party 00", "party 01", "party 0,01",
    "party ,",
    "party 0,", "party ,0", "party 0,,1", "party none", "party 0;1", "party (0,1)", "party (0", "party -1",
    "party 0,-1",
    "party +0", "party 0,+1", "party 0, 1", "party 0 ,1", "party x", "party 0,x", "party \u0660", "party 0,\uff11",
    "party 0.0", "party 1_0", "party " + "9" * 30 + ",0", "party 9,8,7", "party " + "," * 490,
] + ODD_THINGS + [
    0, 1, BIG, ["tree"], ("tree",), {"tree": "tree"}, ["guests", 3], ("guests", "3"), ("party", (0, 1)), [["back"]],
]
NO_LINES = [line for line in NO_LINES if line not in QUESTIONS + ("back",)]


def bar_by_words(bar):
    if bar is None:
        return "none"
    a, b, c, ways = bar
    text = f"{a},{b},{c}"
    for way in ways:
        text += " " + str(list(way))[1:-1].replace(", ", ">")
    return text


def replies(n, parties):
    """The answers of all questions, by the functions of their stages."""
    tree = tree_of(n, parties)
    row = None if tree is None else rows_of(n, tree)[0]
    return {
        "parties": parties_text(n, parties),
        "tree": "none" if tree is None else tree_text(n, tree),
        "many": "0" if tree is None else str(rows_many(n, tree)),
        "first": "none" if row is None else str(list(row))[1:-1].replace(" ", ""),
        "bar": bar_by_words(least_bar(n, parties)),
    }


def party_line(party):
    return "party " + ",".join(map(str, party))


def told_desk(n, parties):
    desk = Desk()
    for line in [f"guests {n}"] + [party_line(party) for party in parties]:
        desk.say(line)
    return desk


def asked(desk):
    return {question: desk.say(question) for question in QUESTIONS}


class QuestionsTest(unittest.TestCase):
    def test_at_first(self):
        self.assertEqual(
            asked(Desk()), {"parties": "none", "tree": "0", "many": "1", "first": "0", "bar": "none"})

    def test_by_hand(self):
        desk = told_desk(4, [(0, 1), (1, 2)])
        self.assertEqual(
            asked(desk), {"parties": "0,1 1,2", "tree": "([0 1 2] 3)", "many": "4", "first": "0,1,2,3", "bar": "none"})
        desk = told_desk(3, [(0, 1), (0, 2), (1, 2)])
        self.assertEqual(
            asked(desk),
            {"parties": "0,1 0,2 1,2", "tree": "none", "many": "0", "first": "none", "bar": "0,1,2 0>0>1 0>1>2 1>2>2"})
        desk = told_desk(4, [(0, 1), (0, 2), (0, 3)])
        self.assertEqual(desk.say("bar"), "1,2,3 1>0>0>1>2 1>0>0>2>3 2>1>0>2>3")
        self.assertEqual(asked(told_desk(7, []))["many"], "5040")

    def test_held_against_the_functions_of_their_stages(self):
        picker = Picker(1021)
        kinds = {True: 0, False: 0}
        for number in range(250):
            n = 1 + number % 7
            parties = picker.parties(n, number % 9)
            desk = told_desk(n, parties)
            told = asked(desk)
            self.assertEqual(told, replies(n, parties), (n, parties))
            self.assertTrue(all(type(text) is str for text in told.values()))
            self.assertEqual(asked(desk), told)
            kinds[told["bar"] == "none"] += 1
            if n < 6:
                rows = seatings_of(n, parties)
                self.assertEqual(told["many"], str(len(rows)))
                self.assertEqual(told["first"], ",".join(map(str, rows[0])) if rows else "none")
        self.assertGreater(min(kinds.values()), 20)


class DeedsTest(unittest.TestCase):
    def test_guests(self):
        desk = Desk()
        for n in range(1, 8):
            self.assertEqual(desk.say(f"guests {n}"), "ok")
            self.assertEqual(asked(desk), replies(n, []))
            self.assertEqual(desk.say("party 0"), "ok")
            self.assertEqual(desk.say("parties"), "0")
        self.assertEqual(desk.say("guests 7"), "ok")
        self.assertEqual(desk.say("parties"), "none")

    def test_party(self):
        desk = told_desk(4, [])
        parties = [(1, 2), (0, 1), (0, 1, 2, 3), (3,), (1, 2), (0,), (2, 3), (0, 1)]
        for many, party in enumerate(parties):
            self.assertEqual(desk.say(party_line(party)), "ok")
            self.assertEqual(desk.say("parties"), parties_text(4, parties[:many + 1]))
        assert_refused(self, NoParties, desk.say, "party 0,1")
        self.assertEqual(desk.say("parties"), parties_text(4, parties))

    def test_a_party_of_other_guests_is_refused(self):
        for n in range(1, 8):
            desk = told_desk(n, [(0,)])
            for line in [f"party {n}", f"party 0,{n}", "party 7", "party 0,1,2,3,4,5,6,7", "party 10", "party 0,10",
                         "party 9,10", "party " + "9" * 30, "party 0," + "9" * 30]:
                assert_refused(self, NoParties, desk.say, line)
                self.assertEqual(asked(desk), replies(n, [(0,)]))
        self.assertEqual(told_desk(7, [(0, 6)]).say("parties"), "0,6")

    def test_drop(self):
        parties = [(0, 1), (1, 2), (0, 2), (2, 3), (0, 1)]
        for number in range(5):
            desk = told_desk(4, parties)
            self.assertEqual(desk.say(f"drop {number}"), "ok")
            self.assertEqual(asked(desk), replies(4, parties[:number] + parties[number + 1:]))
        desk = told_desk(4, parties)
        for number in range(5):
            self.assertEqual(desk.say("drop 0"), "ok")
        self.assertEqual(desk.say("parties"), "none")
        assert_refused(self, NoNumber, desk.say, "drop 0")

    def test_a_number_of_no_party_is_refused(self):
        for many in range(9):
            desk = told_desk(2, [(0, 1)] * many)
            for number in (many, many + 1, 8, 9, 10, int("9" * 30)):
                assert_refused(self, NoNumber, desk.say, f"drop {number}")
            self.assertEqual(asked(desk), replies(2, [(0, 1)] * many))
        assert_refused(self, NoNumber, Desk().say, "drop 0")

    def test_back(self):
        desk = Desk()
        assert_refused(self, NoDeed, desk.say, "back")
        lines = ["guests 4", "party 0,1", "party 1,2", "drop 0", "party 0,3", "guests 4", "guests 3", "party 0,2"]
        seen = [asked(desk)]
        for line in lines + ["drop 0"]:
            self.assertEqual(desk.say(line), "ok")
            seen.append(asked(desk))
        for before in reversed(seen[:-1]):
            self.assertEqual(desk.say("back"), "ok")
            self.assertEqual(asked(desk), before)
        for _ in range(3):
            assert_refused(self, NoDeed, desk.say, "back")
        self.assertEqual(asked(desk), seen[0])
        # A deed behind one undone stands in its stead.
        for line in ("guests 3", "party 0,1", "back", "party 1,2", "back", "party 0,2"):
            desk.say(line)
        self.assertEqual(desk.say("parties"), "0,2")
        self.assertEqual([desk.say("back"), desk.say("back")], ["ok", "ok"])
        assert_refused(self, NoDeed, desk.say, "back")

    def test_back_makes_room_again(self):
        desk = told_desk(2, [(0, 1)] * 8)
        assert_refused(self, NoParties, desk.say, "party 0")
        self.assertEqual(desk.say("back"), "ok")
        self.assertEqual(desk.say("party 0"), "ok")
        self.assertEqual(desk.say("parties"), parties_text(2, [(0, 1)] * 7 + [(0,)]))

    def test_what_is_refused_is_no_deed(self):
        desk = told_desk(3, [(0, 1)])
        before = asked(desk)
        for error, line in [(NoParties, "party 3"), (NoNumber, "drop 1"), (NoLine, "party 1,0"), (NoLine, "guests 8")]:
            assert_refused(self, error, desk.say, line)
            self.assertEqual(asked(desk), before)
        # Questions are no deeds either.
        self.assertEqual(desk.say("back"), "ok")
        self.assertEqual(desk.say("parties"), "none")
        self.assertEqual(desk.say("back"), "ok")
        self.assertEqual(asked(desk), asked(Desk()))
        assert_refused(self, NoDeed, desk.say, "back")


class ManyLinesTest(unittest.TestCase):
    def test_a_desk_hangs_on_the_deeds_that_stand_alone(self):
        """Lines by chance, held against a list of all states."""
        picker = Picker(1022)
        for _ in range(12):
            desk, states = Desk(), [(1, [])]
            for _ in range(60):
                n, parties = states[-1]
                line, error, after = self.one_line(picker, n, parties, len(states))
                if error is not None:
                    assert_refused(self, error, desk.say, line)
                else:
                    self.assertEqual(desk.say(line), "ok", line)
                    if after is None:
                        states.pop()
                    else:
                        states.append(after)
                self.assertEqual(desk.say("parties"), parties_text(*states[-1]))
                question = picker.one(QUESTIONS)
                self.assertEqual(desk.say(question), replies(*states[-1])[question])
            self.assertEqual(asked(desk), replies(*states[-1]))
            again = told_desk(*states[-1])
            self.assertEqual(asked(again), asked(desk))

    def one_line(self, picker, n, parties, many_states):
        chance = picker.number(20)
        if chance < 2:
            more = 1 + picker.number(7)
            return f"guests {more}", None, (more, [])
        if chance < 11:
            party = picker.parties(min(n + 1, 7), 1)[0]
            wrong = len(parties) == 8 or max(party) >= n
            return party_line(party), NoParties if wrong else None, (n, parties + [party])
        if chance < 15:
            number = picker.number(len(parties) + 1)
            after = (n, parties[:number] + parties[number + 1:])
            return f"drop {number}", NoNumber if number == len(parties) else None, after
        if chance < 18:
            return "back", NoDeed if many_states == 1 else None, None
        return picker.one(NO_LINES), NoLine, None

    def test_two_desks_do_not_hang_together(self):
        one, other = Desk(), Desk()
        one.say("guests 3")
        one.say("party 0,2")
        self.assertEqual(asked(other), replies(1, []))
        assert_refused(self, NoDeed, other.say, "back")
        other.say("guests 2")
        other.say("party 0,1")
        self.assertEqual(asked(one), replies(3, [(0, 2)]))
        one.say("back")
        one.say("back")
        self.assertEqual(asked(other), replies(2, [(0, 1)]))
        self.assertEqual(asked(one), replies(1, []))
        assert_refused(self, NoDeed, one.say, "back")
        self.assertEqual(asked(Desk()), replies(1, []))


class NoLineTest(unittest.TestCase):
    def test_lines_that_are_none(self):
        # Of a desk with nothing, with something, and with eight parties: NoLine goes ahead of all else.
        for desk in (Desk(), told_desk(4, [(0, 1), (2, 3)]), told_desk(2, [(0, 1)] * 8)):
            before = asked(desk)
            for line in NO_LINES:
                kept = copy.deepcopy(line)
                with self.subTest(line=line):
                    assert_refused(self, NoLine, desk.say, line)
                    self.assertEqual(line, kept)
            self.assertEqual(asked(desk), before)
        assert_refused(self, NoDeed, Desk().say, "back")

    def test_one_sign_more_less_or_other(self):
        # Of these lines only such as are lines again are taken.
        for good in ("tree", "back", "guests 3", "party 0,1", "drop 0"):
            for place in range(len(good) + 1):
                for line in [good[:place] + good[place + 1:], good[:place] + " " + good[place:],
                             good[:place] + "\n" + good[place:], good[:place] + "x" + good[place:],
                             good[:place] + "\u0661" + good[place:], good[:place] + "+" + good[place:]]:
                    if line in (good, "party 0", "party 1"):
                        continue
                    assert_refused(self, NoLine, told_desk(4, [(0,)]).say, line)


if __name__ == "__main__":
    unittest.main()
