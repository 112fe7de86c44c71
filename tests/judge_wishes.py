"""A plain judge of wished plans for the tests: servings and cases, by walking through everything.

A state is a dict: for each place that is a head's own the index of this head. Nothing of the package is used here.
"""

from itertools import combinations, permutations, product

from tests import judge


def sizes_for(many, heads):
    """All sizes of so many heads that come to so many places."""
    return [tuple(high - low for low, high in zip((0, *cuts), (*cuts, many), strict=True))
            for cuts in combinations(range(1, many), heads - 1)]


def heads_of(land, many):
    """All heads, so many, in any sequence."""
    return list(permutations(judge.places_of(land), many))


def first_state(heads):
    return {head: k for k, head in enumerate(heads)}


def free_places(land, state):
    return [place for place in judge.places_of(land) if place not in state]


def servings(land, heads, sizes):
    """The list of all servings, by giving each place to each head."""
    state = first_state(heads)
    free = free_places(land, state)
    found = []
    for row in product(range(len(heads)), repeat=len(free)):
        full = {**state, **dict(zip(free, row, strict=True))}
        lots = tuple(tuple(sorted(place for place in full if full[place] == k)) for k in range(len(heads)))
        if tuple(map(len, lots)) == sizes and all(judge.joined(land, lot) for lot in lots):
            found.append(lots)
    return found


def come_to(land, heads, state, k):
    """The set of the places to which the k-th head can come."""
    open_to = [place for place in judge.places_of(land) if state.get(place, k) == k]
    return judge.come_to(land, heads[k], open_to)


def is_index(value, many):
    return type(value) is int and 0 <= value < many


def are_cases(land, heads, sizes, state, value):
    """Whether any value is cases of a state, right after the words of the document."""
    if type(value) is not tuple or not value or type(value[0]) is not str:
        return False
    if value[0] == "split" and len(value) == 3 and type(value[2]) is tuple and len(value[2]) == len(heads):
        if not is_index(value[1], len(land[0])) or value[1] in state:
            return False
        return all(are_cases(land, heads, sizes, {**state, value[1]: k}, row) for k, row in enumerate(value[2]))
    if len(value) != 2:
        return False
    if value[0] == "lost":
        return is_index(value[1], len(land[0])) and is_lost(land, heads, state, value[1])
    return is_index(value[1], len(heads)) and is_of_head(land, heads, sizes, state, *value)


def is_lost(land, heads, state, place):
    return place not in state and all(place not in come_to(land, heads, state, k) for k in range(len(heads)))


def is_of_head(land, heads, sizes, state, word, k):
    own = [place for place in state if state[place] == k]
    reach = come_to(land, heads, state, k)
    if word == "over":
        return len(own) > sizes[k]
    return word == "shut" and (len(reach) < sizes[k] or not set(own) <= reach)


def short_cases(land, heads, sizes, state):
    """All cases of a state that split nothing."""
    told = [(word, k) for word in ("over", "shut") for k in range(len(heads))]
    told += [("lost", place) for place in judge.places_of(land)]
    return [value for value in told if are_cases(land, heads, sizes, state, value)]


def long_cases(land, heads, sizes, state=None):
    """What splits as often as can be, with right cases at each end; where there are none, ("over", 0)."""
    state = first_state(heads) if state is None else state
    free = free_places(land, state)
    if not free:
        return (short_cases(land, heads, sizes, state) + [("over", 0)])[0]
    rows = tuple(long_cases(land, heads, sizes, {**state, free[-1]: k}) for k in range(len(heads)))
    return ("split", free[-1], rows)


def drawn_cases(land, heads, sizes, draw, state=None):
    """Cases drawn evenly among short ones and a split; None if the state has no cases."""
    state = first_state(heads) if state is None else state
    short = short_cases(land, heads, sizes, state)
    free = free_places(land, state)
    if not free or (short and draw.randrange(3)):
        return draw.choice(short) if short else None
    place = draw.choice(free)
    rows = tuple(drawn_cases(land, heads, sizes, draw, {**state, place: k}) for k in range(len(heads)))
    return None if None in rows else ("split", place, rows)


def changed_cases(value, places, heads):
    """A list of values that come from cases by a change in one part of them."""
    word, at = value[0], value[1]
    found = [(other, at) + value[2:] for other in ("over", "shut", "lost", "split", "Over", "", None, 0, ("over",))]
    found += [(word, other) + value[2:]
              for other in (*range(-1, max(places, heads) + 1), True, False, None, str(at), (at,), 10 ** 89)]
    found += [list(value), value[:1], value + (0,), value + ((),), (), None, word, at, (value,), value[::-1]]
    leaf = value if word != "split" else ("over", 0)
    found += [("split", place, (leaf,) * heads) for place in range(places)]
    if word == "split" and type(value[2]) is tuple:
        found += changed_rows(word, at, value[2], places, heads)
    return found


def changed_rows(word, at, rows, places, heads):
    """The changes among the rows of a split, and within each of them."""
    found = [(word, at, other) for other in (rows[::-1], rows[1:], rows[:-1], rows + rows[:1], rows + rows, list(rows),
                                             (), None, rows[0], (rows,), (rows[0],) * heads, (rows[-1],) * heads)]
    found += [(word, at), (word, rows, at), (word, at, rows, ()), *rows]
    for k, row in enumerate(rows):
        for other in changed_cases(row, places, heads):
            found.append((word, at, rows[:k] + (other,) + rows[k + 1:]))
    return found


def changed_servings(value):
    """A list of values that come from a serving by exchanging, moving, leaving out and putting in."""
    found = [value[::-1], value[1:], value[:-1], value + value[:1], value + ((),), list(value), (), None, value[0],
             (value,), tuple(map(list, value)), value[1:] + value[:1], tuple(sorted(value))]
    for k, lot in enumerate(value):
        others = [lot[::-1], lot[1:], lot[:-1], lot + lot[-1:], list(lot), (), None, str(lot), lot + (None,),
                  lot + (10 ** 89,), (lot,), tuple(bool(place) if place < 2 else place for place in lot)]
        others += [tuple(sorted({*lot, place})) for other in value for place in other]
        found += [value[:k] + (other,) + value[k + 1:] for other in others]
        found += moved(value, k)
    return found


def moved(value, k):
    """Each place of the k-th lot moved to each other one, and exchanged with each place of it."""
    found = []
    for other in range(len(value)):
        if other == k:
            continue
        for place in value[k]:
            lots = list(value)
            lots[k] = judge.without(value[k], place)
            lots[other] = tuple(sorted(value[other] + (place,)))
            found.append(tuple(lots))
            for back in value[other]:
                twice = list(lots)
                twice[k] = tuple(sorted(lots[k] + (back,)))
                twice[other] = judge.without(lots[other], back)
                found.append(tuple(twice))
    return found
