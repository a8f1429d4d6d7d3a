"""A desk that is told lines of text: deeds that change its guests and parties, and questions."""

from standtogether.bars import least_bar
from standtogether.errors import NoDeed, NoLine, NoNumber, NoParties
from standtogether.parties import MOST_GUESTS, is_parties
from standtogether.texts import guests_text, parties_text, read_number, read_party, tree_text
from standtogether.trees import rows_many, rows_of
from standtogether.whole import tree_of

DONE = "ok"
NOTHING = "none"
DEEDS = ("guests", "party", "drop")
QUESTIONS = ("parties", "tree", "many", "first", "bar")


def read_thing(word, text):
    if word == "party":
        return read_party(text)
    number = read_number(text)
    if word == "guests" and number is not None and (number < 1 or number > MOST_GUESTS):
        return None
    return number


def read_line(line):
    words = line.split(" ") if isinstance(line, str) else []
    if len(words) == 1 and (words[0] == "back" or words[0] in QUESTIONS):
        return (words[0], None)
    if len(words) == 2 and words[0] in DEEDS:
        thing = read_thing(words[0], words[1])
        if thing is not None:
            return (words[0], thing)
    raise NoLine("this is no line that a desk knows")


def with_party(n, parties, party):
    more = parties + [party]
    if not is_parties(n, more):
        raise NoParties("this is no party of these guests, or there are eight")
    return more


def without_party(parties, number):
    if number >= len(parties):
        raise NoNumber("this is no number of a party")
    return parties[:number] + parties[number + 1:]


def state_after(state, word, thing):
    if word == "guests":
        return (thing, [])
    if word == "party":
        return (state[0], with_party(state[0], state[1], thing))
    return (state[0], without_party(state[1], thing))


def bar_text(bar):
    if bar is None:
        return NOTHING
    ways = [">".join([str(number) for number in way]) for way in bar[3]]
    return " ".join([guests_text(bar[:3])] + ways)


def reply_of_tree(n, tree, word):
    if word == "many":
        return str(0 if tree is None else rows_many(n, tree))
    if tree is None:
        return NOTHING
    return tree_text(n, tree) if word == "tree" else guests_text(rows_of(n, tree)[0])


def reply(n, parties, word):
    if word == "parties":
        return parties_text(n, parties)
    if word == "bar":
        return bar_text(least_bar(n, parties))
    return reply_of_tree(n, tree_of(n, parties), word)


class Desk:
    def __init__(self):
        # The state at first, and behind it the one that each deed that stands has left.
        self.states = [(1, [])]

    def undo(self):
        if len(self.states) == 1:
            raise NoDeed("no deed stands that could be undone")
        self.states.pop()

    def say(self, line):
        told = read_line(line)
        state = self.states[-1]
        if told[0] in QUESTIONS:
            return reply(state[0], state[1], told[0])
        if told[0] == "back":
            self.undo()
        else:
            self.states.append(state_after(state, told[0], told[1]))
        return DONE
