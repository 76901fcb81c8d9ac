"""Trails that loop, by which powers go on for ever, and what powers are far on by them."""

from wholefract.errors import NoTrail
from wholefract.programs import is_whole
from wholefract.steps import changes_of, first_of, moved

MOST_PLACES = 40


def added_by(program, powers, trail):
    if not is_trail(program, trail):
        return None
    rows = changes_of(program)
    places = places_of(rows, powers, len(trail))
    if used_at(places) != trail:
        return None
    return added_along(rows, places)


def is_trail(program, thing):
    if not isinstance(thing, tuple) or len(thing) < 1 or len(thing) > MOST_PLACES:
        return False
    return all([is_whole(part) and part >= 0 and part < len(program) for part in thing])


def places_of(rows, powers, many):
    # Each place is the powers there and the fraction that is used; none is used at the last one.
    places = []
    reached = powers
    number = first_of(rows, reached)
    while len(places) < many and number is not None:
        places.append((reached, number))
        reached = moved(reached, rows[number], 1)
        number = first_of(rows, reached)
    places.append((reached, None))
    return places


def used_at(places):
    return tuple([place[1] for place in places[:-1]])


def added_along(rows, places):
    added = moved(places[-1][0], places[0][0], -1)
    if min(added) < 0:
        return None
    for powers, number in places[:-1]:
        if not all([stays_shut(changes, powers, added) for changes in rows[:number]]):
            return None
    return added


def stays_shut(changes, powers, added):
    # What the trail adds to may be enough some time; of the rest there is the same each time.
    return any([power + change < 0 and more == 0 for change, power, more in zip(changes, powers, added)])


def far_on(program, powers, trail, steps):
    added = added_by(program, powers, trail)
    if added is None:
        raise NoTrail("no trail that loops from the powers")
    rows = changes_of(program)
    reached = moved(powers, added, steps // len(trail))
    for number in trail[:steps % len(trail)]:
        reached = moved(reached, rows[number], 1)
    return reached


def first_loop(program, powers, most):
    rows = changes_of(program)
    places = places_of(rows, powers, most)
    many = len(places) - 1
    for steps in range(many):
        for end in range(steps + 1, min(steps + MOST_PLACES, many) + 1):
            part = places[steps:end + 1]
            added = added_along(rows, part)
            if added is not None:
                return (steps, used_at(part), added)
    return None
