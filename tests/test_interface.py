"""Holds the names and arguments of the program against the interface that is promised."""

import importlib
import inspect
import unittest

PROMISED = {
    "parties": [
        "is_party(n, thing)", "is_parties(n, thing)", "is_seating(n, thing)", "sits(seating, party)",
        "first_broken(n, parties, seating)",
    ],
    "trees": [
        "is_tree(n, thing)", "rows_many(n, tree)", "rows_of(n, tree)", "has_row(n, tree, seating)",
        "row_at(n, tree, number)", "number_of(n, tree, seating)", "least_form(n, tree)",
    ],
    "tight": ["tightened(n, tree, party)", "holds_in(n, tree, party)", "first_apart(n, tree, party)"],
    "whole": ["tree_of(n, parties)", "parties_by(n, tree)", "both(n, one, other)", "kept_parties(n, tree)"],
    "bars": ["is_bar(n, parties, thing)", "answer(n, parties)", "least_bar(n, parties)"],
    "rounds": [
        "is_round(n, thing)", "sits_round(n, seating, party)", "first_broken_round(n, seating, parties)",
        "turned_parties(n, parties)", "all_rounds(n, parties)", "rounds_many(n, parties)", "round_answer(n, parties)",
    ],
    "choices": [
        "is_choice(n, parties, thing)", "least_choices(n, parties)", "bars_show(n, parties, thing)",
        "bars_for(n, parties)",
    ],
    "leaving": [
        "is_guest_choice(n, parties, thing)", "least_guest_choices(n, parties)", "links_show(n, parties, thing)",
        "links_for(n, parties)",
    ],
    "webs": [
        "is_web(thing)", "are_stretches(web, thing)", "web_of(some)", "bars_web(web, thing)", "web_answer(web)",
        "crowds(web)", "crowd_parties(web)",
    ],
    "moves": [
        "parties_named(n, parties, order)", "seating_named(n, seating, order)", "tree_named(n, tree, order)",
        "put_in(n, parties, guest, m, others)", "tree_put_in(n, tree, guest, m, other)", "left_out(n, tree, guests)",
    ],
    "texts": ["parties_text(n, parties)", "tree_text(n, tree)", "read_parties(n, text)", "read_tree(n, text)"],
    "desk": ["Desk()", "Desk.say(self, line)"],
}


class InterfaceTest(unittest.TestCase):
    def test_names_and_arguments(self):
        for module, promised in PROMISED.items():
            there = importlib.import_module("standtogether." + module)
            for one in promised:
                what = there
                for part in one.split("(")[0].split("."):
                    what = getattr(what, part)
                self.assertEqual(one.split("(")[0] + str(inspect.signature(what)), one)


if __name__ == "__main__":
    unittest.main()
