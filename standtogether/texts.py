"""Texts of parties and trees, written and read."""

from standtogether.errors import NoText
from standtogether.parties import check_guests, check_parties, is_parties, rises
from standtogether.trees import is_leaf, is_tree

FIGURES = "0123456789"
NO_PARTIES = "none"
WORDS = {"(": "any", "[": "row"}


def guests_text(guests):
    return ",".join([str(guest) for guest in guests])


def parties_text(n, parties):
    check_parties(n, parties)
    if len(parties) == 0:
        return NO_PARTIES
    return " ".join([guests_text(party) for party in parties])


def write_tree(tree):
    if is_leaf(tree):
        return str(tree)
    inner = " ".join([write_tree(branch) for branch in tree[1]])
    return f"({inner})" if tree[0] == "any" else f"[{inner}]"


def tree_text(n, tree):
    check_guests(n)
    return write_tree(tree)


def read_number(text):
    # Sign by sign, as int also takes blanks, signs ahead and figures of other kinds.
    if len(text) == 0 or not all([sign in FIGURES for sign in text]):
        return None
    return int(text) if text == "0" or text[0] != "0" else None


def read_party(text):
    numbers = [read_number(part) for part in text.split(",")]
    if None in numbers or not rises(numbers):
        return None
    return tuple(numbers)


def read_parties(n, text):
    check_guests(n)
    if text == NO_PARTIES:
        return []
    parties = [read_party(part) for part in text.split(" ")] if isinstance(text, str) else None
    if not is_parties(n, parties):
        raise NoText("this is no text of parties of so many guests")
    return parties


def read_loosely(text):
    # Blanks, and which bracket closes, are passed over: whoever asks writes the tree again and compares.
    # The forks that are open are kept in lists, as a text may open more of them than calls can go deep.
    words = []
    branches = [[]]
    for sign in text:
        if sign in WORDS:
            words.append(WORDS[sign])
            branches.append([])
        elif sign in FIGURES:
            branches[-1].append(int(sign))
        elif sign in ")]" and len(words) > 0:
            fork = (words.pop(), tuple(branches.pop()))
            branches[-1].append(fork)
    return branches[0][0] if len(words) == 0 and len(branches[0]) == 1 else None


def read_tree(n, text):
    check_guests(n)
    tree = read_loosely(text) if isinstance(text, str) else None
    if not is_tree(n, tree) or write_tree(tree) != text:
        raise NoText("this is no text of a tree of so many guests")
    return tree
