"""Webs of points that are tied, the stretches that make them, and what bars a web from stretches."""

from standtogether.bars import legs
from standtogether.errors import NoWeb
from standtogether.parties import are_guests, is_whole, rises
from standtogether.trees import row_as_written
from standtogether.whole import all_parties, tree_of

MOST_POINTS = 7
LEAST_RING = 4


def are_points(many, thing):
    # Points are numbered as guests are.
    return are_guests(many, thing)


def is_tie(many, thing):
    return are_points(many, thing) and len(thing) == 2 and rises(thing)


def is_web(thing):
    if not isinstance(thing, tuple) or len(thing) != 2:
        return False
    many = thing[0]
    ties = thing[1]
    if not is_whole(many) or many < 1 or many > MOST_POINTS or not isinstance(ties, tuple):
        return False
    return all([is_tie(many, part) for part in ties]) and rises(ties)


def check_web(web):
    if not is_web(web):
        raise NoWeb("this is no web")


def tied(web, one, other):
    return (min(one, other), max(one, other)) in web[1]


def pairs(many):
    found = []
    for one in range(many):
        found.extend([(one, other) for other in range(one + 1, many)])
    return found


def is_stretch(thing):
    if not isinstance(thing, tuple) or len(thing) != 2:
        return False
    return is_whole(thing[0]) and is_whole(thing[1]) and thing[0] <= thing[1]


def meet(one, other):
    return one[0] <= other[1] and other[0] <= one[1]


def web_of(some):
    ties = [pair for pair in pairs(len(some)) if meet(some[pair[0]], some[pair[1]])]
    return (len(some), tuple(ties))


def are_stretches(web, thing):
    check_web(web)
    if not isinstance(thing, tuple) or len(thing) != web[0] or not all([is_stretch(part) for part in thing]):
        return False
    return web_of(thing) == web


def are_unlike(points):
    return len(set(points)) == len(points)


def is_ring(web, thing):
    if not are_points(web[0], thing) or len(thing) < LEAST_RING or not are_unlike(thing):
        return False
    beside = (1, len(thing) - 1)
    return all([tied(web, thing[j], thing[k]) == (k - j in beside) for j, k in pairs(len(thing))])


def is_near(web, point, third):
    return point == third or tied(web, point, third)


def is_way_past(web, thing, one, other, third):
    if not are_points(web[0], thing) or len(thing) == 0 or not are_unlike(thing):
        return False
    if thing[0] != one or thing[-1] != other or any([is_near(web, point, third) for point in thing]):
        return False
    return all([tied(web, thing[k], thing[k + 1]) for k in range(len(thing) - 1)])


def are_apart(web, thing):
    if not isinstance(thing, tuple) or len(thing) != 4:
        return False
    trio = thing[:3]
    ways = thing[3]
    if not are_points(web[0], trio) or not rises(trio) or not isinstance(ways, tuple) or len(ways) != 3:
        return False
    wanted = legs(trio[0], trio[1], trio[2])
    return all([is_way_past(web, way, leg[0], leg[1], leg[2]) for way, leg in zip(ways, wanted)])


def bars_web(web, thing):
    check_web(web)
    if not isinstance(thing, tuple) or len(thing) != 2:
        return False
    if thing[0] == "ring":
        return is_ring(web, thing[1])
    return thing[0] == "apart" and are_apart(web, thing[1])


def onward(web, walk, some):
    return [point for point in some if point not in walk and tied(web, walk[-1], point)]


def walk_among(web, some):
    # If these points are a ring, a walk that takes each point once goes round it.
    walk = [some[0]]
    while len(onward(web, walk, some)) > 0:
        walk.append(onward(web, walk, some)[0])
    return tuple(walk)


def some_ring(web):
    for some in all_parties(web[0]):
        ring = walk_among(web, some)
        if is_ring(web, ring):
            return ring
    return None


def way_past(web, one, other, third):
    free = [point for point in range(web[0]) if not is_near(web, point, third)]
    found = {one: (one,)} if one in free else {}
    waiting = list(found)
    while len(waiting) > 0:
        point = waiting.pop(0)
        for mate in free:
            if mate not in found and tied(web, point, mate):
                found[mate] = found[point] + (mate,)
                waiting.append(mate)
    return found.get(other)


def some_apart(web):
    for trio in all_parties(web[0]):
        if len(trio) == 3:
            ways = [way_past(web, leg[0], leg[1], leg[2]) for leg in legs(trio[0], trio[1], trio[2])]
            if None not in ways:
                return trio + (tuple(ways),)
    return None


def are_all_tied(web, some):
    return all([tied(web, some[j], some[k]) for j, k in pairs(len(some))])


def has_further(web, some):
    # No point is tied to itself, so those of the crowd itself are no further ones.
    return any([all([tied(web, point, mate) for mate in some]) for point in range(web[0])])


def crowds(web):
    check_web(web)
    return [some for some in all_parties(web[0]) if are_all_tied(web, some) and not has_further(web, some)]


def crowd_parties(web):
    found = crowds(web)
    if some_ring(web) is not None:
        return None
    return [tuple([number for number, crowd in enumerate(found) if point in crowd]) for point in range(web[0])]


def stretch_in(row, party):
    places = [row.index(crowd) for crowd in party]
    return (min(places), max(places))


def web_answer(web):
    parties = crowd_parties(web)
    if parties is None:
        return ("ring", some_ring(web))
    tree = tree_of(len(crowds(web)), parties)
    if tree is None:
        return ("apart", some_apart(web))
    # Points are tied just where some crowd has both, so each stretches over the crowds that have it.
    row = row_as_written(tree)
    return ("stretches", tuple([stretch_in(row, party) for party in parties]))
