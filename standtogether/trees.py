"""Trees of guests, their rows and their least form."""

from standtogether.errors import NoNumber
from standtogether.parties import check_guests, is_guest, is_seating, is_whole, sits


def is_fork(thing):
    if not isinstance(thing, tuple) or len(thing) != 2 or not isinstance(thing[1], tuple):
        return False
    if thing[0] == "any":
        return len(thing[1]) >= 2
    return thing[0] == "row" and len(thing[1]) >= 3


def is_tree(n, thing):
    check_guests(n)
    found = []
    # A stack, and an end at the first guest that comes twice: so neither a deep
    # thing nor one that holds the same part over and over takes long.
    waiting = [thing]
    while len(waiting) > 0:
        part = waiting.pop()
        if is_fork(part):
            waiting.extend(part[1])
        elif is_guest(n, part) and part not in found:
            found.append(part)
        else:
            return False
    return len(found) == n


def is_leaf(tree):
    return not isinstance(tree, tuple)


def row_as_written(tree):
    if is_leaf(tree):
        return [tree]
    guests = []
    for branch in tree[1]:
        guests.extend(row_as_written(branch))
    return guests


def guests_in(tree):
    return sorted(row_as_written(tree))


def count_rows(tree):
    if is_leaf(tree):
        return 1
    many = 2 if tree[0] == "row" else 1
    for place, branch in enumerate(tree[1], start=1):
        many = many * count_rows(branch)
        if tree[0] == "any":
            many = many * place
    return many


def rows_many(n, tree):
    check_guests(n)
    return count_rows(tree)


def orders_of(things):
    if len(things) == 0:
        return [[]]
    orders = []
    for k in range(len(things)):
        for rest in orders_of(things[:k] + things[k + 1:]):
            orders.append([things[k]] + rest)
    return orders


def strung(choices):
    rows = [()]
    for choice in choices:
        longer = []
        for row in rows:
            longer.extend([row + piece for piece in choice])
        rows = longer
    return rows


def all_rows(tree):
    if is_leaf(tree):
        return [(tree,)]
    choices = [all_rows(branch) for branch in tree[1]]
    if tree[0] == "row":
        orders = [choices, list(reversed(choices))]
    else:
        orders = orders_of(choices)
    rows = []
    for order in orders:
        rows.extend(strung(order))
    return rows


def rows_of(n, tree):
    check_guests(n)
    return sorted(all_rows(tree))


def runs(numbers):
    return numbers == sorted(numbers) or numbers == sorted(numbers, reverse=True)


def keeps(tree, seating):
    if is_leaf(tree):
        return True
    if not sits(seating, guests_in(tree)):
        return False
    if tree[0] == "row":
        # Each branch is asked below to sit together, so one guest of it shows its place.
        places = [seating.index(guests_in(branch)[0]) for branch in tree[1]]
        if not runs(places):
            return False
    return all([keeps(branch, seating) for branch in tree[1]])


def has_row(n, tree, seating):
    return is_seating(n, seating) and keeps(tree, seating)


def row_at(n, tree, number):
    rows = rows_of(n, tree)
    if not is_whole(number) or number < 0 or number >= len(rows):
        raise NoNumber("this is no number of a row of the tree")
    return rows[number]


def number_of(n, tree, seating):
    if not has_row(n, tree, seating):
        raise NoNumber("this seating is no row of the tree")
    return rows_of(n, tree).index(seating)


def least_guest(tree):
    return guests_in(tree)[0]


def put_least(tree):
    if is_leaf(tree):
        return tree
    branches = [put_least(branch) for branch in tree[1]]
    if tree[0] == "any":
        branches = sorted(branches, key=least_guest)
    elif least_guest(branches[0]) > least_guest(branches[-1]):
        branches = list(reversed(branches))
    return (tree[0], tuple(branches))


def least_form(n, tree):
    check_guests(n)
    return put_least(tree)
